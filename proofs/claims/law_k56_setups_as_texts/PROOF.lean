
import PyProof.Rows.All
import Wide.All
import OpenK.AllK
import Wide.FinOn
import HandS.SortInts
import PySem.Challenge.RW_pagelend_k56_setups_as_texts
import HandS.ForMost
import HandS.Wide
import HandS.Defaults
import HandS.MakeKwOnly
import HandS.IsInst
import HandS.Codes
import HandS.Walk
import HandS.TupAny
import HandS.More
import HandS.Sort
import HandS.Conv
import HandS.HotCalls
import HandS.ExcIs
import KE.KSortTupAny
import HandS.DictComp
import HandS.Deep
import HandS.Rev
import KE.KDictKeyed
import HandS.SetFor
import HandS.Strs
import HandS.SortOrd
import HandS.SortRule
import HandS.Zip
import HandS.TupMul
import HandS.Text
import HandS.FStr
import HandS.Star
import HandS.RaiseMore
import HandS.Exc
import HandS.NoneIn
set_option Elab.async false
set_option linter.all false
set_option maxRecDepth 100000
set_option maxHeartbeats 1000000
namespace My
open PySem PySem.Spec PyProof.Rows L2
def topS (i : Nat) : Stmt := PySem.Challenge.pw_pagelend_k56_setups_as_texts.main.body.getD i (.Pass ⟨0, 0, 0, 0⟩)
structure Fre (K : PySem.W.Frag) (mg : Str → Option Value) : Prop where
  ValueError : mg "ValueError" = none
  abs : mg "abs" = none
  all : mg "all" = none
  bool : mg "bool" = none
  enumerate : mg "enumerate" = none
  int : mg "int" = none
  isinstance : mg "isinstance" = none
  len : mg "len" = none
  min : mg "min" = none
  range : mg "range" = none
  sorted : mg "sorted" = none
  str : mg "str" = none
  tuple : mg "tuple" = none
  zip : mg "zip" = none
  c_HEADS : ∃ W, mg "HEADS" = some (.ref W) ∧ ∀ H, SqT K H W [.str "files", .str "clients", .str "length", .str "drift"]
  c_LETTERS : ∃ t, mg "LETTERS" = some (.str "abcdefghijklmnopqrstuvwxyz" t)
  c_LONGEST_NAME : ∃ t, mg "LONGEST_NAME" = some (.int 8 t)
  c_SERVER : ∃ t, mg "SERVER" = some (.str "server" t)
  c_FIGURES : ∃ t, mg "FIGURES" = some (.str "0123456789" t)
  c_MOST_FIGURES : ∃ t, mg "MOST_FIGURES" = some (.int 12 t)
/-! ### calls with keywords, a def kept as its promise -/
structure CalN (P : Program) (w : World) (K : PySem.W.Frag) (mg : Str → Option Value) (base : Heap) (k : Nat) (x : Str) (sp : Sp) (n : Nat) (ks : List Str) (gV : List V → List V → List V) : Prop where
  ex : ∃ (f : Addr) (fd : FuncData) (ps : List Str) (g : List Value → List Value → List Value), FnOk P w K mg base CX0 k f fd ps sp ∧ mg x = some (.ref f) ∧ PySem.W.keepIn K (.ref f) = true ∧ KBn K fd ps n ks g gV
section
variable {X : Cx} {k j n : Nat} {x : Str} {sp : Sp} {ks : List Str} {gV : List V → List V → List V} {p pos : Pos} {e : Expr} {es : List Expr} {kws : List Keyword} {t tk : TA}
theorem pe_cn (c : CalN X.prog X.w X.K X.mg X.base k x sp n ks gV) (hr : Room j X.A) (hk : k ≤ j) (hg : Gl X x) (ha : PA X (e :: es) t) (hkw : PK X kws tk)
    (hall : (backToKw pos (keywordEach kws X.env)).all (·.1.isSome) = true := by rfl) (hks : (backToKw pos (keywordEach kws X.env)).filterMap (·.1) = ks := by rfl)
    (hdb : (x == ("__debug__" : Str)) = false := by decide) (he : starEach (e :: es) X.env = (false, eval e X.env) :: starEach es X.env := by rfl)
    (hpl : ((backTo pos (starEach (e :: es) X.env)).any (·.1) || (backToKw pos (keywordEach kws X.env)).any (·.1.isNone)) = false := by rfl) :
    PE X (.Call (.Name x p) (e :: es) kws pos) (tCallN n ks.length sp gV E0 t tk) := by
  obtain ⟨f, fd, ps, g, F, hm, kp, b⟩ := c.ex
  exact pe_callN F (hr.mono hk) hg hm kp b pass0 ha hkw hall hks hdb he hpl
theorem pe_cn0 (c : CalN X.prog X.w X.K X.mg X.base k x sp 0 ks gV) (hr : Room j X.A) (hk : k ≤ j) (hg : Gl X x) (hkw : PK X kws tk)
    (hall : (backToKw pos (keywordEach kws X.env)).all (·.1.isSome) = true := by rfl) (hks : (backToKw pos (keywordEach kws X.env)).filterMap (·.1) = ks := by rfl)
    (hdb : (x == ("__debug__" : Str)) = false := by decide)
    (hpl : ((backTo pos (starEach [] X.env)).any (·.1) || (backToKw pos (keywordEach kws X.env)).any (·.1.isNone)) = false := by rfl) :
    PE X (.Call (.Name x p) [] kws pos) (tCallN 0 ks.length sp gV E0 tNil tk) := by
  obtain ⟨f, fd, ps, g, F, hm, kp, b⟩ := c.ex
  refine ⟨fun pins s σ H Q I h => ?_⟩
  refine wpAny_Call_Name_kw (ld_glob I hg hm ?_ hdb)
  refine PySem.W.callWith_KW0 (h₀ := X.base) I.ok.mod.kin kp hall ?_ hpl
  refine thn (hkw.run pos pins s σ H _ I h) fun ws s2 ⟨zs, H2, I2, rz, l1, l2, q2⟩ => ⟨I2.kIn, ?_⟩
  rw [hks]
  exact run_fnN (us := []) (vs := []) F (hr.mono hk) b pass0 I2 .nil rz rfl l2 q2
end
section
variable {P : Program} {w : World} {K : PySem.W.Frag} {mg : Str → Option Value} {base : Heap}
theorem mkCal {x : Str} {st : Stmt} {f : Addr} {fd : FuncData} {N ps : List Str} {k : Nat} {sp : Sp} (F : Fun K x x st f fd) (gm : mg x = some (.ref f)) (S : FnScope N ps (defScope st)) (b : Binds K fd ps []) (len : ∀ vs H Q E, sp vs H Q E → vs.length = ps.length)
    (hbody : ∀ (cdv : Value) (A : Around) (outer : List Env) (s : Shared) (H : Hp) (vs : List V) (Q : VK) (E : XK), Room k (A.deeper (envOfC x (defScope st) s.heap.objs.size f cdv)) → sp vs H Q E →
      ∃ t, PSs (cxOf CX0 P w K mg base N x (defScope st) f cdv A outer s H E).nox (defBody st) t ∧ t { nx := fun _ H' => Q .non H', rt := Q } (start N vs) H) : C8.Cal P w K mg base (k + 1) x sp [] :=
  ⟨f, fd, ps, [], F.ok S len hbody, gm, F.kp, b, .nil⟩
end
/-! ### heaps -/
def But (b : Addr) (H H' : Hp) : Prop := ∀ a o, a ≠ b → H a = some o → H' a = some o
theorem But.trans {b : Addr} {H H1 H2 : Hp} (h : But b H H1) (g : But b H1 H2) : But b H H2 := fun a o n e => g a o n (h a o n e)
theorem But.refl (b : Addr) (H : Hp) : But b H H := fun _ _ _ e => e
theorem But.put {b : Addr} {H : Hp} {o : HO} : But b H (L2.upd H b o) := fun a _ n e => by rw [upd_ne n]; exact e
theorem But.new {b p : Addr} {H : Hp} {o : HO} (h : H p = none) : But b H (L2.upd H p o) := fun a _ n e => by rw [upd_ne (ne_of_none e h)]; exact e
theorem same_upd {H : Hp} {p : Addr} {o : HO} (h : H p = none) : Same H (upd H p o) := fun b x e => by
  rw [upd_ne (ne_of_none e h)]
  exact e
def Bag (H : Hp) (b : Addr) : Prop := ∃ x y : Int, H b = some (.lst [.int x, .int y]) ∧ 0 ≤ x ∧ 0 ≤ y ∧ y < 2147483647
theorem Bag.new {H : Hp} {b p : Addr} {o : HO} (g : Bag H b) (h : H p = none) : Bag (L2.upd H p o) b := by
  obtain ⟨x, y, e, r⟩ := g
  exact ⟨x, y, by rw [upd_ne (ne_of_none e h)]; exact e, r⟩
theorem Bag.ne {H : Hp} {b p : Addr} (g : Bag H b) (h : H p = none) : p ≠ b := by
  obtain ⟨x, y, e, r⟩ := g
  exact (ne_of_none e h).symm
theorem Bag.ne_tup {H : Hp} {b p : Addr} {xs : List V} (g : Bag H b) (h : H p = some (.tup xs)) : p ≠ b := by
  obtain ⟨x, y, e, r⟩ := g
  exact ne_of h e (by intro z; cases z)
theorem seqBut {K : PySem.W.Frag} {H H' : Hp} {a b : Addr} {xs : List V} (e : But b H H') (n : a ≠ b) (h : SqL K H a xs) : SqL K H' a xs := by
  rcases h with (h | ⟨o, h⟩) | h
  · exact .inl (.inl (e _ _ n h))
  · exact .inl (.inr ⟨o, e _ _ n h⟩)
  · exact .inr h
theorem dT {a : Bool} {b : Bool} (h : a = b) : decide (V.bl a = V.bl b) = true := by rw [h]; exact decide_eq_true rfl
theorem two_ok (a b : V) : [a, b].length ≤ sizeLine := by show 2 ≤ sizeLine; decide
theorem three_ok (a b c : V) : [a, b, c].length ≤ sizeLine := by show 3 ≤ sizeLine; decide
theorem four_ok (a b c d : V) : [a, b, c, d].length ≤ sizeLine := by show 4 ≤ sizeLine; decide
theorem free_of {b p : Addr} {H H' : Hp} (g : But b H H') (hB : Bag H b) (hB' : Bag H' b) (np : H' p = none) : H p = none := by
  cases e : H p with
  | none => rfl
  | some o =>
    have z := g p o (hB'.ne np) e
    rw [np] at z
    cases z
theorem same_but {b : Addr} {H0 H1 H2 : Hp} (sm : Same H0 H1) (nb : H0 b = none) (g : But b H1 H2) : Same H0 H2 := fun c o e => g c o (ne_of_none e nb) (sm c o e)
theorem iteD {p A B : Prop} [Decidable p] (h : ¬ p) (b : B) : if decide p = true then A else B := by
  rw [if_neg (by rw [decide_eq_false h]; exact Bool.false_ne_true)]
  exact b
theorem iteD' {p A B : Prop} [Decidable p] (h : p) (b : A) : if decide p = true then A else B := by
  rw [if_pos (decide_eq_true h)]
  exact b
theorem vone {vs : List V} {us : List Value} (i : Nat) (r : Vals vs us) : Vals ((vs.drop i).take 1) ((us.drop i).take 1) := by
  exact (r.drop i).take 1
section
variable {P : Program} {w : World} {K : PySem.W.Frag} {mg : Str → Option Value} {base : Heap}

/-! ### data: what stands at a value -/
theorem sqT_same {H H' : Hp} {a : Addr} {xs : List V} (e : Same H H') (h : SqT K H a xs) : SqT K H' a xs := by
  rcases h with (h | ⟨o, h⟩) | h
  · exact .inl (.inl (e _ _ h))
  · exact .inl (.inr ⟨o, e _ _ h⟩)
  · exact .inr h
mutual
theorem dp_same {H H' : Hp} (e : Same H H') : ∀ (d : PyData) (v : V), Dp K H v d → Dp K H' v d
  | .none, _, h => by cases h; exact .non
  | .bool b, _, h => by cases h; exact .bl b
  | .int i, _, h => by cases h; exact .int i
  | .str x, _, h => by cases h; exact .str x
  | .list ds, _, h => by
    cases h with
    | lst hs ha => exact .lst (e.seq hs) (dp_sameAll e ds _ ha)
  | .tuple ds, _, h => by
    cases h with
    | tup hs ha => exact .tup (sqT_same e hs) (dp_sameAll e ds _ ha)
  | .dict _, _, h => by cases h
theorem dp_sameAll {H H' : Hp} (e : Same H H') : ∀ (ds : List PyData) (vs : List V), DpAll K H vs ds → DpAll K H' vs ds
  | [], _, h => by cases h; exact .nil
  | d :: ds, _, h => by
    cases h with
    | cons h1 h2 => exact .cons (dp_same e d _ h1) (dp_sameAll e ds _ h2)
end
theorem dpAll_len {H : Hp} : ∀ {vs : List V} {ds : List PyData}, DpAll K H vs ds → vs.length = ds.length
  | [], _, h => by cases h; rfl
  | _ :: vs, _, h => by
    cases h with
    | cons _ h2 => rw [List.length_cons, List.length_cons, dpAll_len h2]
theorem dpAll_get {H : Hp} : ∀ {vs : List V} {ds : List PyData} {i : Nat} {v : V}, DpAll K H vs ds → vs[i]? = some v → ∃ d, ds[i]? = some d ∧ Dp K H v d
  | _, _, 0, _, .cons h1 _, e => by
    cases e
    exact ⟨_, rfl, h1⟩
  | _, _, i + 1, _, .cons _ h2, e => dpAll_get (i := i) h2 (by simpa using e)
  | _, _, i, _, .nil, e => by simp at e
theorem dpAll_append {H : Hp} : ∀ {vs us : List V} {ds es : List PyData}, DpAll K H vs ds → DpAll K H us es → DpAll K H (vs ++ us) (ds ++ es)
  | _, _, _, _, .nil, h => h
  | _, _, _, _, .cons h1 h2, h => .cons h1 (dpAll_append h2 h)
def tyD : PyData → String
  | .none => "NoneType"
  | .bool _ => "bool"
  | .int _ => "int"
  | .str _ => "str"
  | .list _ => "list"
  | .tuple _ => "tuple"
  | .dict _ => "dict"
theorem dp_ty {H : Hp} {v : V} {d : PyData} (h : Dp K H v d) : TyX K H v (.type (tyD d)) := by
  cases h with
  | non => exact .base .non
  | bl b => exact .base (.bl b)
  | int i => exact .base (.int i)
  | str x => exact .base (.str x)
  | lst hs _ =>
    rcases hs with (h | ⟨o, h⟩) | ⟨o, _, _, h, c, _⟩
    · exact .base (.lst h)
    · exact .base (.frz h)
    · exact .kList h c
  | tup hs _ =>
    rcases hs with (h | ⟨o, h⟩) | ⟨o, _, _, h, c, _⟩
    · exact .base (.tup h)
    · exact .fTuple h
    · exact .kTuple h c
def isTy (t T : String) : Bool := t == T || (T == "int" && t == "bool")
def isT (d : PyData) (T : String) : Bool := isTy (tyD d) T
theorem kit_all : ∀ t ∈ ["NoneType", "bool", "int", "str", "list", "tuple", "dict"], ∀ T ∈ ["int", "bool", "str", "tuple", "list"], kitB t T = some (isTy t T) := by decide +kernel
theorem tyD_mem (d : PyData) : tyD d ∈ ["NoneType", "bool", "int", "str", "list", "tuple", "dict"] := by cases d <;> simp [tyD]
theorem kit_d (d : PyData) {T : String} (hT : T = "int" ∨ T = "bool" ∨ T = "str" ∨ T = "tuple" ∨ T = "list") : PySem.W.kitOne K (.type (tyD d)) (.type T) = some (isT d T) :=
  kit_ty (kit_all _ (tyD_mem d) _ (by simpa using hT))

end
/-! ### rules of our own: a list against an empty one -/
section
variable {X : Cx}
theorem op_eqNil (hu : X.A.units < cLine) : OpR X (compareOp .Eq) (fun x y H Q => ∃ a b xs, x = .ref a ∧ y = .ref b ∧ SqL X.K H a xs ∧ SqL X.K H b [] ∧ Q (.bl xs.isEmpty) H) := by
  intro pins s σ H x y v u Q I rx ry h
  obtain ⟨a, b, xs, rfl, rfl, ha, hb, q⟩ := h
  obtain rfl : v = Value.ref a := rx
  obtain rfl : u = Value.ref b := ry
  obtain ⟨its, rv, p, _⟩ := I.list ha
  obtain ⟨its2, rv2, p2, _⟩ := I.list hb
  cases rv2
  cases xs with
  | nil =>
    cases rv
    exact PySem.EqBoolInt.of_rc (SeqAt.RcAt.lists (e := fun _ => true) p.isList p2.isList rfl hu (fun j h1 => absurd h1 (Nat.not_lt_zero j))) ⟨.bl true, H, I, rfl, q⟩
  | cons z zs =>
    cases rv
    exact PySem.EqBoolInt.of_rc (SeqAt.RcAt.lists_lengths p.isList p2.isList (by simp) hu) ⟨.bl false, H, I, rfl, q⟩
theorem op_neNil (hu : X.A.units < cLine) : OpR X (compareOp .NotEq) (fun x y H Q => ∃ a b xs, x = .ref a ∧ y = .ref b ∧ SqL X.K H a xs ∧ SqL X.K H b [] ∧ Q (.bl (!xs.isEmpty)) H) := by
  intro pins s σ H x y v u Q I rx ry h
  obtain ⟨a, b, xs, rfl, rfl, ha, hb, q⟩ := h
  obtain rfl : v = Value.ref a := rx
  obtain rfl : u = Value.ref b := ry
  obtain ⟨its, rv, p, _⟩ := I.list ha
  obtain ⟨its2, rv2, p2, _⟩ := I.list hb
  cases rv2
  cases xs with
  | nil =>
    cases rv
    exact PySem.EqBoolInt.of_rcne (SeqAt.RcNeAt.lists (e := fun _ => true) p.isList p2.isList rfl hu (fun j h1 => absurd h1 (Nat.not_lt_zero j))) ⟨.bl false, H, I, rfl, q⟩
  | cons z zs =>
    cases rv
    exact PySem.EqBoolInt.of_rcne (SeqAt.RcNeAt.lists_lengths p.isList p2.isList (by simp) hu) ⟨.bl true, H, I, rfl, q⟩
end
theorem hu0 {A : Around} {k : Nat} (hr : Room k A) : A.units < cLine := by have := hr.un; omega
section
variable {P : Program} {w : World} {K : PySem.W.Frag} {mg : Str → Option Value} {base : Heap}

/-! ### data that nothing changes -/
mutual
def imm : PyData → Bool
  | .list _ => false
  | .dict _ => false
  | .tuple ds => immAll ds
  | .none => true
  | .bool _ => true
  | .int _ => true
  | .str _ => true
def immAll : List PyData → Bool
  | [] => true
  | d :: ds => imm d && immAll ds
end
/-- tuples, and what is locked -/
def Fix : HO → Prop
  | .tup _ => True
  | .frz _ _ => True
  | _ => False
def Kt (H H' : Hp) : Prop := ∀ a o, H a = some o → Fix o → H' a = some o
theorem Kt.refl (H : Hp) : Kt H H := fun _ _ e _ => e
theorem Kt.trans {H H1 H2 : Hp} (h : Kt H H1) (g : Kt H1 H2) : Kt H H2 := fun a o e f => g a o (h a o e f) f
theorem Kt.same {H H' : Hp} (h : Same H H') : Kt H H' := fun a o e _ => h a o e
theorem Kt.but {H H' : Hp} {b : Addr} {o : HO} (h : But b H H') (hb : H b = some o) (n : ¬ Fix o) : Kt H H' := fun a o' e f => h a o' (fun z => n (by rw [z, hb] at e; cases e; exact f)) e
theorem Kt.upd {H : Hp} {b : Addr} {o o' : HO} (hb : H b = some o) (n : ¬ Fix o) : Kt H (upd H b o') := fun a o2 e f => by
  rw [upd_ne (fun z => n (by rw [z, hb] at e; cases e; exact f))]
  exact e
theorem Kt.bag {H H' : Hp} {b : Addr} (h : But b H H') (g : Bag H b) : Kt H H' := by
  obtain ⟨x, y, e, _⟩ := g
  exact Kt.but h e (fun z => z)
theorem sqT_kt {H H' : Hp} {a : Addr} {xs : List V} (e : Kt H H') (h : SqT K H a xs) : SqT K H' a xs := by
  rcases h with (h | ⟨o, h⟩) | h
  · exact .inl (.inl (e _ _ h trivial))
  · exact .inl (.inr ⟨o, e _ _ h trivial⟩)
  · exact .inr h
mutual
theorem dp_kt {H H' : Hp} (e : Kt H H') : ∀ (d : PyData) (v : V), imm d = true → Dp K H v d → Dp K H' v d
  | .none, _, _, h => by cases h; exact .non
  | .bool b, _, _, h => by cases h; exact .bl b
  | .int i, _, _, h => by cases h; exact .int i
  | .str x, _, _, h => by cases h; exact .str x
  | .list ds, _, i, h => by simp [imm] at i
  | .tuple ds, _, i, h => by
    cases h with
    | tup hs ha => exact .tup (sqT_kt e hs) (dp_ktAll e ds _ (by simpa [imm] using i) ha)
  | .dict _, _, _, h => by cases h
theorem dp_ktAll {H H' : Hp} (e : Kt H H') : ∀ (ds : List PyData) (vs : List V), immAll ds = true → DpAll K H vs ds → DpAll K H' vs ds
  | [], _, _, h => by cases h; exact .nil
  | d :: ds, _, i, h => by
    cases h with
    | cons h1 h2 =>
      have i2 : imm d = true ∧ immAll ds = true := by simpa [immAll] using i
      exact .cons (dp_kt e d _ i2.1 h1) (dp_ktAll e ds _ i2.2 h2)
end
theorem immAll_iff : ∀ {ds : List PyData}, immAll ds = true ↔ ∀ d ∈ ds, imm d = true
  | [] => by simp [immAll]
  | d :: ds => by simp [immAll, immAll_iff (ds := ds)]
theorem dpAll_getD {H : Hp} {vs : List V} {ds : List PyData} {i : Nat} {d : PyData} (h : DpAll K H vs ds) (e : ds[i]? = some d) : ∃ v, vs[i]? = some v ∧ Dp K H v d := by
  have hl := dpAll_len h
  have hi : i < vs.length := by
    rw [hl]
    exact (List.getElem?_eq_some_iff.mp e).1
  obtain ⟨d', e', p⟩ := dpAll_get h (List.getElem?_eq_getElem hi)
  rw [e] at e'
  cases e'
  exact ⟨_, List.getElem?_eq_getElem hi, p⟩
theorem dp_list {H : Hp} {v : V} {ds : List PyData} (h : Dp K H v (.list ds)) : ∃ a vs, v = .ref a ∧ SqL K H a vs ∧ DpAll K H vs ds := by
  cases h with
  | lst hs ha => exact ⟨_, _, rfl, hs, ha⟩
theorem dp_tuple {H : Hp} {v : V} {ds : List PyData} (h : Dp K H v (.tuple ds)) : ∃ a vs, v = .ref a ∧ SqT K H a vs ∧ DpAll K H vs ds := by
  cases h with
  | tup hs ha => exact ⟨_, _, rfl, hs, ha⟩
theorem take_fm {α β : Type} (f : α → Option β) (ds : List α) (i : Nat) (d : α) (h : ds[i]? = some d) : (ds.take (i + 1)).filterMap f = (ds.take i).filterMap f ++ (f d).toList := by
  rw [List.take_add_one, h, List.filterMap_append]
  cases e : f d <;> simp [e]
theorem fm_take_le {α β : Type} (f : α → Option β) (ds : List α) (i : Nat) : ((ds.take i).filterMap f).length ≤ i :=
  Nat.le_trans (List.length_filterMap_le _ _) (by rw [List.length_take]; exact Nat.min_le_left _ _)
/-- a list made of a list of data, by a function of it -/
theorem lc_ty {α β : Type} {a D : Addr} {vs : List V} {xs : List α} {H1 : Hp} {σ : L2.St} {g : TG} {tt : TT} {te : TE} {ws : List Nat} {Qd : Hp → Prop} (ea : α → PyData) (eb : β → PyData) (f : α → Option β)
    (hS : SqL K H1 a vs) (hA : DpAll K H1 vs (xs.map ea)) (hn : H1 D = none) (hlen : xs.length ≤ 1000000) (him : ∀ y, imm (eb y) = true)
    (step : ∀ (i : Nat) (v : V) (x : α) (H : Hp) (k : V → Hp → Prop) (kf : Hp → Prop), xs[i]? = some x → Same H1 H → Dp K H v (ea x) → (∀ y, f x = some y → ∀ v' H4, Same H H4 → Dp K H4 v' (eb y) → k v' H4) → (f x = none → ∀ H3, Same H H3 → kf H3) →
      g v (wipe σ ws) H fun σ2 H2 => wipe σ2 ws = wipe σ ws ∧ tt σ2 H2 fun b H3 => if b = true then te σ2 H3 k else kf H3)
    (hd : ∀ H ys, Same H1 H → H D = some (.lst ys) → DpAll K H ys ((xs.filterMap f).map eb) → Qd H) :
    ∃ W : Nat → Nat → Hp → Prop, (∃ m, W 0 m (upd H1 D (.lst []))) ∧ ∀ i m H, W i m H →
      ((Itl K a).stop i H ∧ Qd H) ∨ ((Itl K a).go i H ∧ ∃ Nx : Hp → Prop, (∀ H', Nx H' → ∃ m', m' < m ∧ W (i + 1) m' H') ∧ ∀ x H', (Itl K a).yld i H x H' → g x (wipe σ ws) H' fun σ2 H2 => wipe σ2 ws = wipe σ ws ∧ tt σ2 H2 fun b H3 =>
        if b = true then te σ2 H3 fun y H4 => ∃ acc, H4 D = some (.lst acc) ∧ acc.length < sizeLine ∧ Nx (upd H4 D (.lst (acc ++ [y]))) else Nx H3) := by
  have hl := dpAll_len hA
  rw [List.length_map] at hl
  have imA : ∀ zs : List β, immAll (zs.map eb) = true := fun zs => immAll_iff.mpr fun e he => by
    obtain ⟨y, _, rfl⟩ := List.mem_map.mp he
    exact him y
  refine lc_it (walk_list (K := K) (a := a) (xs := vs)) (fun i H => Same H1 H ∧ ∃ acc, H D = some (.lst acc) ∧ DpAll K H acc (((xs.take i).filterMap f).map eb)) ⟨same_upd hn, [], upd_same, .nil⟩ (fun i H _ z => z.1.seq hS) ?_ ?_
  · rintro i v H H' hi ⟨s1, acc, hD, hacc⟩ ⟨rfl, hv⟩
    obtain ⟨d, ed, pd⟩ := dpAll_get hA hv
    rw [List.getElem?_map] at ed
    obtain ⟨x, ex, rfl⟩ := Option.map_eq_some_iff.mp ed
    refine step i v x H' _ _ ex s1 (dp_same s1 _ _ pd) ?_ ?_
    · intro e fe y H4 s4 py
      have hD4 := s4 _ _ hD
      have kt : Kt H' (upd H4 D (.lst (acc ++ [y]))) := (Kt.same s4).trans (Kt.upd hD4 (fun z => z))
      refine ⟨acc, hD4, ?_, ?_, acc ++ [y], upd_same, ?_⟩
      · have := dpAll_len hacc
        rw [List.length_map] at this
        have h2 := fm_take_le f xs i
        rw [sizeLine_eq]
        omega
      · intro c o ec
        rw [upd_ne (ne_of_none ec hn)]
        exact s4 _ _ (s1 _ _ ec)
      · rw [take_fm f xs i x ex, fe, List.map_append]
        exact dpAll_append (dp_ktAll kt _ _ (imA _) hacc) (.cons (dp_kt (Kt.upd hD4 (fun z => z)) _ _ (him e) py) .nil)
    · intro fe H3 s3
      refine ⟨s1.trans s3, acc, s3 _ _ hD, ?_⟩
      rw [take_fm f xs i x ex, fe]
      have := dp_sameAll s3 _ _ hacc
      simpa using this
  · rintro H ⟨s1, acc, hD, hacc⟩
    refine hd H acc s1 hD ?_
    rw [hl, List.take_of_length_le (Nat.le_refl _)] at hacc
    exact hacc
/-- the same, with no test -/
theorem lc_map {α β : Type} {a D : Addr} {vs : List V} {xs : List α} {H1 : Hp} {σ : L2.St} {g : TG} {te : TE} {ws : List Nat} {Qd : Hp → Prop} (ea : α → PyData) (eb : β → PyData) (f : α → β)
    (hS : SqL K H1 a vs) (hA : DpAll K H1 vs (xs.map ea)) (hn : H1 D = none) (hlen : xs.length ≤ 1000000) (him : ∀ y, imm (eb y) = true)
    (step : ∀ (i : Nat) (v : V) (x : α) (H : Hp) (k : V → Hp → Prop), xs[i]? = some x → Same H1 H → Dp K H v (ea x) → (∀ v' H4, Same H H4 → Dp K H4 v' (eb (f x)) → k v' H4) →
      g v (wipe σ ws) H fun σ2 H2 => wipe σ2 ws = wipe σ ws ∧ te σ2 H2 k)
    (hd : ∀ H ys, Same H1 H → H D = some (.lst ys) → DpAll K H ys ((xs.map f).map eb) → Qd H) :
    ∃ W : Nat → Nat → Hp → Prop, (∃ m, W 0 m (upd H1 D (.lst []))) ∧ ∀ i m H, W i m H →
      ((Itl K a).stop i H ∧ Qd H) ∨ ((Itl K a).go i H ∧ ∃ Nx : Hp → Prop, (∀ H', Nx H' → ∃ m', m' < m ∧ W (i + 1) m' H') ∧ ∀ x H', (Itl K a).yld i H x H' → g x (wipe σ ws) H' fun σ2 H2 => wipe σ2 ws = wipe σ ws ∧ tYes σ2 H2 fun b H3 =>
        if b = true then te σ2 H3 fun y H4 => ∃ acc, H4 D = some (.lst acc) ∧ acc.length < sizeLine ∧ Nx (upd H4 D (.lst (acc ++ [y]))) else Nx H3) := by
  refine lc_ty (tt := tYes) ea eb (fun x => some (f x)) hS hA hn hlen him (fun i v x H k kf ex s1 px hk _ => ?_) (fun H ys s1 hD hy => hd H ys s1 hD ?_)
  · have := step i v x H k ex s1 px (fun v' H4 s4 p4 => hk _ rfl v' H4 s4 p4)
    simpa only [tYes, if_true] using this
  · rw [List.filterMap_eq_map'] at hy
    exact hy
/-- a dict made by a walk -/
theorem dc_it {J : It} {n : Nat} {G : Hp → Prop} {Y : Nat → Hp → V → Hp → Prop} (w : Walk J n G Y) {g : TG} {tt : TT} {tk tv : TE} {vs : List Nat} {σ : L2.St} {H1 : Hp} {D : Addr} {Qd : Hp → Prop} (Pv : Nat → Hp → Prop) (h0 : Pv 0 (upd H1 D (.dK []))) (hG : ∀ i H, i ≤ n → Pv i H → G H)
    (hs : ∀ i x H H', i < n → Pv i H → Y i H x H' → g x (wipe σ vs) H' fun σ2 H2 => wipe σ2 vs = wipe σ vs ∧ tt σ2 H2 fun b H3 =>
      if b = true then tk σ2 H3 fun y H4 => tv σ2 H4 fun z H5 => ∃ kvs k, y = kV k ∧ H5 D = some (.dK kvs) ∧ kvs.length < sizeLine ∧ Pv (i + 1) (upd H5 D (.dK (putK kvs k z))) else Pv (i + 1) H3) (hd : ∀ H, Pv n H → Qd H) :
    ∃ W : Nat → Nat → Hp → Prop, (∃ m, W 0 m (upd H1 D (.dK []))) ∧ ∀ i m H, W i m H →
      (J.stop i H ∧ Qd H) ∨ (J.go i H ∧ ∃ Nx : Hp → Prop, (∀ H', Nx H' → ∃ m', m' < m ∧ W (i + 1) m' H') ∧ ∀ x H', J.yld i H x H' → g x (wipe σ vs) H' fun σ2 H2 => wipe σ2 vs = wipe σ vs ∧ tt σ2 H2 fun b H3 =>
        if b = true then tk σ2 H3 fun y H4 => tv σ2 H4 fun z H5 => ∃ kvs k, y = kV k ∧ H5 D = some (.dK kvs) ∧ kvs.length < sizeLine ∧ Nx (upd H5 D (.dK (putK kvs k z))) else Nx H3) := by
  refine ⟨fun i m H => m = n - i ∧ i ≤ n ∧ Pv i H, ⟨n, by simp, Nat.zero_le _, h0⟩, ?_⟩
  rintro i m H ⟨rfl, hi, p⟩
  have gh := hG i H hi p
  by_cases lt : i < n
  · exact .inr ⟨w.goes i H lt gh, Pv (i + 1), fun H' p' => ⟨n - (i + 1), by omega, rfl, lt, p'⟩, fun x H' y => hs i x H H' lt p (w.yields i H x H' lt gh y)⟩
  · obtain rfl : i = n := by omega
    exact .inl ⟨w.stops H gh, hd H p⟩

theorem hu65 {A : Around} {k : Nat} (hr : Room k A) : A.units + 65 < cLine := by
  have := hr.un
  omega

/-! ### mirrors: values, the store, results -/
inductive A where
  | non | bl (b : Bool) | int (i : Int) | str (x : Str) | tup (xs : List A) | lit (xs : List A) | ref (n : Nat) | adr (a : Addr) | ty (n : String)
inductive AO where
  | lst (xs : List A) | dK (kvs : List (Key × A)) | dT (kvs : List (List Key × A)) | set (ns : List Int) | ins (C : Addr) (fs : List (Str × A)) | xd (fs : List (Str × A))
abbrev Sto := List AO
abbrev AEnv := List (Option A)
inductive Res (α : Type) where
  | ok (a : α) (s : Sto) | ex (c : Addr) (d : Option Nat) (s : Sto) | no
def Res.bind {α β : Type} (r : Res α) (k : α → Sto → Res β) : Res β := match r with
  | .ok a s => k a s
  | .ex c d s => .ex c d s
  | .no => .no
inductive Fl where
  | nx (e : AEnv) | rt (a : A) | bk (e : AEnv) | ct (e : AEnv)
inductive RF where
  | fl (f : Fl) (s : Sto) | ex (c : Addr) (d : Option Nat) (e : AEnv) (s : Sto) | no
/-- a result's use in a statement -/
def Res.thenS {α : Type} (r : Res α) (e : AEnv) (k : α → Sto → RF) : RF := match r with
  | .ok a s => k a s
  | .ex c d s => .ex c d e s
  | .no => .no
def RF.next (r : RF) (k : AEnv → Sto → RF) : RF := match r with
  | .fl (.nx e) s => k e s
  | r => r
def lift {α : Type} (o : Option α) (s : Sto) : Res α := match o with
  | some a => .ok a s
  | none => .no
/-! ### how the mirror stands to the heap -/
mutual
inductive Rv (K : PySem.W.Frag) (H : Hp) (ρ : List Addr) : V → A → Prop where
  | non : Rv K H ρ .non .non
  | bl (b : Bool) : Rv K H ρ (.bl b) (.bl b)
  | int (i : Int) : Rv K H ρ (.int i) (.int i)
  | str (x : Str) : Rv K H ρ (.str x) (.str x)
  | tup {p : Addr} {vs : List V} {xs : List A} : SqT K H p vs → Rvs K H ρ vs xs → Rv K H ρ (.ref p) (.tup xs)
  | lit {p : Addr} {vs : List V} {xs : List A} : ((∃ o, H p = some (.frz o (.lst vs))) ∨ SqL K (fun _ => none) p vs) → Rvs K H ρ vs xs → Rv K H ρ (.ref p) (.lit xs)
  | ref {n : Nat} {a : Addr} : ρ[n]? = some a → Rv K H ρ (.ref a) (.ref n)
  | adr (a : Addr) : Rv K H ρ (.ref a) (.adr a)
  | ty (n : String) : Rv K H ρ (.ty n) (.ty n)
inductive Rvs (K : PySem.W.Frag) (H : Hp) (ρ : List Addr) : List V → List A → Prop where
  | nil : Rvs K H ρ [] []
  | cons {v : V} {a : A} {vs : List V} {xs : List A} : Rv K H ρ v a → Rvs K H ρ vs xs → Rvs K H ρ (v :: vs) (a :: xs)
end
theorem lit_sq {H : Hp} {p : Addr} {vs : List V} (h : (∃ o, H p = some (.frz o (.lst vs))) ∨ SqL K (fun _ => none) p vs) : SqL K H p vs := by
  rcases h with ⟨o, h⟩ | (h | ⟨o, h⟩) | h
  · exact .inl (.inr ⟨o, h⟩)
  · cases h
  · cases h
  · exact .inr h
structure Ext (ρ ρ' : List Addr) (H H' : Hp) : Prop where
  pre : ∃ l, ρ' = ρ ++ l
  kt : Kt H H'
theorem Ext.refl (ρ : List Addr) (H : Hp) : Ext ρ ρ H H := ⟨⟨[], by simp⟩, Kt.refl H⟩
theorem Ext.trans {ρ ρ1 ρ2 : List Addr} {H H1 H2 : Hp} (a : Ext ρ ρ1 H H1) (b : Ext ρ1 ρ2 H1 H2) : Ext ρ ρ2 H H2 := by
  obtain ⟨⟨l, rfl⟩, k⟩ := a
  obtain ⟨⟨m, rfl⟩, k2⟩ := b
  exact ⟨⟨l ++ m, by simp⟩, k.trans k2⟩
theorem Ext.get {ρ ρ' : List Addr} {H H' : Hp} (e : Ext ρ ρ' H H') {n : Nat} {a : Addr} (h : ρ[n]? = some a) : ρ'[n]? = some a := by
  obtain ⟨⟨l, rfl⟩, _⟩ := e
  have hn := (List.getElem?_eq_some_iff.mp h).1
  rw [List.getElem?_append_left hn]
  exact h
theorem Ext.same {ρ : List Addr} {H H' : Hp} (s : Same H H') : Ext ρ ρ H H' := ⟨⟨[], by simp⟩, Kt.same s⟩
mutual
theorem rv_ext {ρ ρ' : List Addr} {H H' : Hp} (e : Ext ρ ρ' H H') : ∀ {v : V} {a : A}, Rv K H ρ v a → Rv K H' ρ' v a
  | _, _, .non => .non
  | _, _, .bl b => .bl b
  | _, _, .int i => .int i
  | _, _, .str x => .str x
  | _, _, .tup h hs => .tup (sqT_kt e.kt h) (rvs_ext e hs)
  | _, _, .lit h hs => .lit (h.imp (fun ⟨o, h⟩ => ⟨o, e.kt _ _ h trivial⟩) id) (rvs_ext e hs)
  | _, _, .ref h => .ref (e.get h)
  | _, _, .adr a => .adr a
  | _, _, .ty a => .ty a
theorem rvs_ext {ρ ρ' : List Addr} {H H' : Hp} (e : Ext ρ ρ' H H') : ∀ {vs : List V} {xs : List A}, Rvs K H ρ vs xs → Rvs K H' ρ' vs xs
  | _, _, .nil => .nil
  | _, _, .cons h hs => .cons (rv_ext e h) (rvs_ext e hs)
end
section
variable {H : Hp} {ρ : List Addr}
theorem Rvs.length : ∀ {vs : List V} {xs : List A}, Rvs K H ρ vs xs → vs.length = xs.length
  | _, _, .nil => rfl
  | _, _, .cons _ hs => by rw [List.length_cons, List.length_cons, Rvs.length hs]
theorem Rvs.get : ∀ {vs : List V} {xs : List A} {i : Nat} {a : A}, Rvs K H ρ vs xs → xs[i]? = some a → ∃ v, vs[i]? = some v ∧ Rv K H ρ v a
  | _, _, 0, _, .cons h _, e => by cases e; exact ⟨_, rfl, h⟩
  | _, _, i + 1, _, .cons _ hs, e => by
    obtain ⟨v, e1, e2⟩ := Rvs.get (i := i) hs (by simpa using e)
    exact ⟨v, by simpa using e1, e2⟩
  | _, _, i, _, .nil, e => by simp at e
theorem Rvs.getV : ∀ {vs : List V} {xs : List A} {i : Nat} {v : V}, Rvs K H ρ vs xs → vs[i]? = some v → ∃ a, xs[i]? = some a ∧ Rv K H ρ v a
  | _, _, 0, _, .cons h _, e => by cases e; exact ⟨_, rfl, h⟩
  | _, _, i + 1, _, .cons _ hs, e => by
    obtain ⟨v, e1, e2⟩ := Rvs.getV (i := i) hs (by simpa using e)
    exact ⟨v, by simpa using e1, e2⟩
  | _, _, i, _, .nil, e => by simp at e
theorem Rvs.append : ∀ {vs us : List V} {xs ys : List A}, Rvs K H ρ vs xs → Rvs K H ρ us ys → Rvs K H ρ (vs ++ us) (xs ++ ys)
  | _, _, _, _, .nil, h => h
  | _, _, _, _, .cons h hs, g => .cons h (Rvs.append hs g)
theorem Rvs.take : ∀ {vs : List V} {xs : List A} (n : Nat), Rvs K H ρ vs xs → Rvs K H ρ (vs.take n) (xs.take n)
  | _, _, 0, _ => by rw [List.take_zero, List.take_zero]; exact .nil
  | _, _, n + 1, .nil => by rw [List.take_nil, List.take_nil]; exact .nil
  | _, _, n + 1, .cons h hs => .cons h (Rvs.take n hs)
theorem Rvs.drop : ∀ {vs : List V} {xs : List A} (n : Nat), Rvs K H ρ vs xs → Rvs K H ρ (vs.drop n) (xs.drop n)
  | _, _, 0, h => h
  | _, _, n + 1, .nil => by rw [List.drop_nil, List.drop_nil]; exact .nil
  | _, _, n + 1, .cons _ hs => Rvs.drop n hs
theorem Rvs.set {v : V} {a : A} (r : Rv K H ρ v a) : ∀ {vs : List V} {xs : List A} (n : Nat), Rvs K H ρ vs xs → Rvs K H ρ (vs.set n v) (xs.set n a)
  | _, _, _, .nil => .nil
  | _, _, 0, .cons _ hs => .cons r hs
  | _, _, n + 1, .cons h hs => .cons h (Rvs.set r n hs)
theorem Rvs.erase : ∀ {vs : List V} {xs : List A} (n : Nat), Rvs K H ρ vs xs → Rvs K H ρ (vs.eraseIdx n) (xs.eraseIdx n)
  | _, _, _, .nil => .nil
  | _, _, 0, .cons _ hs => hs
  | _, _, n + 1, .cons h hs => .cons h (Rvs.erase n hs)
theorem Rvs.ints : ∀ (ns : List Int), Rvs K H ρ (ns.map V.int) (ns.map A.int)
  | [] => .nil
  | n :: ns => .cons (.int n) (Rvs.ints ns)
theorem Rvs.of_ints : ∀ {ns : List Int} {vs : List V}, Rvs K H ρ vs (ns.map A.int) → vs = ns.map V.int
  | [], _, h => by cases h; rfl
  | n :: ns, _, h => by
    cases h with
    | cons h1 h2 =>
      cases h1
      rw [Rvs.of_ints h2]
      rfl
theorem Rvs.strs : ∀ (ns : List Str), Rvs K H ρ (ns.map V.str) (ns.map A.str)
  | [] => .nil
  | n :: ns => .cons (.str n) (Rvs.strs ns)
theorem Rvs.of_strs : ∀ {ns : List Str} {vs : List V}, Rvs K H ρ vs (ns.map A.str) → vs = ns.map V.str
  | [], _, h => by cases h; rfl
  | n :: ns, _, h => by
    cases h with
    | cons h1 h2 =>
      cases h1
      rw [Rvs.of_strs h2]
      rfl
end
def Rkv {κ : Type} (K : PySem.W.Frag) (H : Hp) (ρ : List Addr) : List (κ × V) → List (κ × A) → Prop := Paired fun p q => p.1 = q.1 ∧ Rv K H ρ p.2 q.2
def Ro (K : PySem.W.Frag) (w : World) (H : Hp) (ρ : List Addr) (a : Addr) : AO → Prop
  | .lst xs => ∃ vs, H a = some (.lst vs) ∧ Rvs K H ρ vs xs
  | .dK kvs => ∃ kv, H a = some (.dK kv) ∧ Rkv K H ρ kv kvs
  | .dT kvs => ∃ kv, H a = some (.dT kv) ∧ Rkv K H ρ kv kvs
  | .set ns => ns.Nodup ∧ H a = some (SetO w a (fun j => decide (j ∈ ns)) ns.length)
  | .ins C fs => ∃ dx fv, H a = some (.ins C dx fv) ∧ Rkv K H ρ fv fs
  | .xd fs => ∃ fv, H a = some (.xd fv) ∧ Rkv K H ρ fv fs
structure Rel (K : PySem.W.Frag) (w : World) (ρ : List Addr) (H : Hp) (st : Sto) : Prop where
  len : ρ.length = st.length
  nd : ρ.Nodup
  obj : ∀ (n : Nat) (a : Addr) (o : AO), ρ[n]? = some a → st[n]? = some o → Ro K w H ρ a o
theorem Ro.here {w : World} {H : Hp} {ρ : List Addr} {a : Addr} {o : AO} (h : Ro K w H ρ a o) : ∃ u, H a = some u ∧ ¬ Fix u := by
  cases o with
  | lst xs => obtain ⟨_, h, _⟩ := h; exact ⟨_, h, fun z => z⟩
  | dK xs => obtain ⟨_, h, _⟩ := h; exact ⟨_, h, fun z => z⟩
  | dT xs => obtain ⟨_, h, _⟩ := h; exact ⟨_, h, fun z => z⟩
  | set ns => exact ⟨_, h.2, fun z => z⟩
  | ins C fs => obtain ⟨_, _, h, _⟩ := h; exact ⟨_, h, fun z => z⟩
  | xd fs => obtain ⟨_, h, _⟩ := h; exact ⟨_, h, fun z => z⟩
theorem rkv_ext {κ : Type} {ρ ρ' : List Addr} {H H' : Hp} (e : Ext ρ ρ' H H') {kv : List (κ × V)} {kvs : List (κ × A)} (h : Rkv K H ρ kv kvs) : Rkv K H' ρ' kv kvs := Paired.mapP h fun _ _ z => ⟨z.1, rv_ext e z.2⟩
/-- an object that stands as it was -/
theorem Ro.ext {w : World} {ρ ρ' : List Addr} {H H' : Hp} (e : Ext ρ ρ' H H') {a : Addr} {o : AO} (h : Ro K w H ρ a o) (s : ∀ u, H a = some u → H' a = some u) : Ro K w H' ρ' a o := by
  cases o with
  | lst xs => obtain ⟨_, h, r⟩ := h; exact ⟨_, s _ h, rvs_ext e r⟩
  | dK xs => obtain ⟨_, h, r⟩ := h; exact ⟨_, s _ h, rkv_ext e r⟩
  | dT xs => obtain ⟨_, h, r⟩ := h; exact ⟨_, s _ h, rkv_ext e r⟩
  | set ns => exact ⟨h.1, s _ h.2⟩
  | ins C fs => obtain ⟨_, _, h, r⟩ := h; exact ⟨_, _, s _ h, rkv_ext e r⟩
  | xd fs => obtain ⟨_, h, r⟩ := h; exact ⟨_, s _ h, rkv_ext e r⟩
section
variable {w : World} {ρ : List Addr} {H : Hp} {st : Sto}
theorem Rel.at (r : Rel K w ρ H st) {n : Nat} {o : AO} (e : st[n]? = some o) : ∃ a, ρ[n]? = some a ∧ Ro K w H ρ a o := by
  have hn := (List.getElem?_eq_some_iff.mp e).1
  have hn' : n < ρ.length := by rw [r.len]; exact hn
  exact ⟨ρ[n], List.getElem?_eq_getElem hn', r.obj n _ o (List.getElem?_eq_getElem hn') e⟩
theorem Rel.get (r : Rel K w ρ H st) {n : Nat} {a : Addr} {o : AO} (h : ρ[n]? = some a) (e : st[n]? = some o) : Ro K w H ρ a o := r.obj n a o h e
theorem Rel.is (r : Rel K w ρ H st) {n : Nat} {a : Addr} (h : ρ[n]? = some a) : ∃ u, H a = some u ∧ ¬ Fix u := by
  have hn := (List.getElem?_eq_some_iff.mp h).1
  have hn' : n < st.length := by rw [← r.len]; exact hn
  exact (r.obj n a _ h (List.getElem?_eq_getElem hn')).here
theorem Rel.fresh (r : Rel K w ρ H st) {p : Addr} (np : H p = none) : p ∉ ρ := fun hp => by
  obtain ⟨n, hn⟩ := List.mem_iff_getElem?.mp hp
  obtain ⟨u, hu, _⟩ := r.is hn
  rw [np] at hu
  cases hu
/-- a heap that grew -/
theorem Rel.same (r : Rel K w ρ H st) {H' : Hp} (s : Same H H') : Rel K w ρ H' st :=
  ⟨r.len, r.nd, fun n a o h e => (r.obj n a o h e).ext (Ext.same s) fun u hu => s _ _ hu⟩
theorem inj_at (nd : ρ.Nodup) {n m : Nat} {a : Addr} (h : ρ[n]? = some a) (g : ρ[m]? = some a) : n = m :=
  (List.getElem?_inj (List.getElem?_eq_some_iff.mp h).1 nd).mp (by rw [h, g])
/-- an object is changed -/
theorem Rel.put (r : Rel K w ρ H st) {n : Nat} {a : Addr} {o : AO} {u : HO} (h : ρ[n]? = some a) (new : ∀ H', Ext ρ ρ H H' → H' a = some u → Ro K w H' ρ a o) : Ext ρ ρ H (upd H a u) ∧ Rel K w ρ (upd H a u) (st.set n o) := by
  obtain ⟨u0, hu, nf⟩ := r.is h
  have e : Ext ρ ρ H (upd H a u) := ⟨⟨[], by simp⟩, Kt.upd hu nf⟩
  refine ⟨e, ⟨by rw [List.length_set]; exact r.len, r.nd, fun m b o' hb e' => ?_⟩⟩
  by_cases hm : m = n
  · subst hm
    rw [h] at hb
    cases hb
    have hl : m < st.length := by
      have := (List.getElem?_eq_some_iff.mp e').1
      simpa using this
    rw [List.getElem?_set_self hl] at e'
    cases e'
    exact new _ e upd_same
  · rw [List.getElem?_set_ne (fun z => hm z.symm)] at e'
    have nb : b ≠ a := fun z => by
      subst z
      exact hm (inj_at r.nd hb h)
    exact (r.obj m b o' hb e').ext e fun u hu => by rw [upd_ne nb]; exact hu
/-- an object is new -/
theorem Rel.new (r : Rel K w ρ H st) {p : Addr} {o : AO} {u : HO} (np : H p = none) (new : ∀ H', Ext ρ (ρ ++ [p]) H H' → H' p = some u → Ro K w H' (ρ ++ [p]) p o) : Ext ρ (ρ ++ [p]) H (upd H p u) ∧ Rel K w (ρ ++ [p]) (upd H p u) (st ++ [o]) := by
  have e : Ext ρ (ρ ++ [p]) H (upd H p u) := ⟨⟨[p], rfl⟩, Kt.same (same_upd np)⟩
  refine ⟨e, ⟨by rw [List.length_append, List.length_append, r.len]; rfl, ?_, fun m b o' hb e' => ?_⟩⟩
  · refine List.nodup_append.mpr ⟨r.nd, by simp, fun x hx y hy z => ?_⟩
    rw [List.mem_singleton.mp hy] at z
    exact r.fresh np (z ▸ hx)
  · by_cases hm : m < st.length
    · rw [List.getElem?_append_left hm] at e'
      rw [List.getElem?_append_left (by rw [r.len]; exact hm)] at hb
      exact (r.obj m b o' hb e').ext e fun u hu => by rw [upd_ne (ne_of_none hu np)]; exact hu
    · have e2 : m = st.length := by
        have := (List.getElem?_eq_some_iff.mp e').1
        rw [List.length_append, List.length_singleton] at this
        omega
      subst e2
      rw [List.getElem?_append_right (Nat.le_refl _), Nat.sub_self] at e'
      rw [← r.len, List.getElem?_append_right (Nat.le_refl _), Nat.sub_self] at hb
      cases e'
      cases hb
      exact new _ e upd_same
theorem Rel.last (r : Rel K w ρ H st) (p : Addr) : (ρ ++ [p])[st.length]? = some p := by
  rw [← r.len, List.getElem?_append_right (Nat.le_refl _), Nat.sub_self]
  rfl
end
/-- the slots -/
structure Renv (K : PySem.W.Frag) (H : Hp) (ρ : List Addr) (σ : L2.St) (env : AEnv) : Prop where
  len : σ.length = env.length
  val : ∀ (i : Nat) (a : A), env[i]? = some (some a) → ∃ v, σ[i]? = some (some v) ∧ Rv K H ρ v a
theorem Renv.ext {ρ ρ' : List Addr} {H H' : Hp} {σ : L2.St} {env : AEnv} (r : Renv K H ρ σ env) (e : Ext ρ ρ' H H') : Renv K H' ρ' σ env :=
  ⟨r.len, fun i a h => by obtain ⟨v, e1, e2⟩ := r.val i a h; exact ⟨v, e1, rv_ext e e2⟩⟩
theorem Renv.set {ρ : List Addr} {H : Hp} {σ : L2.St} {env : AEnv} (r : Renv K H ρ σ env) (i : Nat) {v : V} {a : A} (h : Rv K H ρ v a) : Renv K H ρ (σ.set i (some v)) (env.set i (some a)) := by
  refine ⟨by rw [List.length_set, List.length_set]; exact r.len, fun j b e => ?_⟩
  by_cases hj : j = i
  · subst hj
    have hl : j < env.length := by
      have := (List.getElem?_eq_some_iff.mp e).1
      simpa using this
    rw [List.getElem?_set_self hl] at e
    cases e
    exact ⟨v, by rw [List.getElem?_set_self (by rw [r.len]; exact hl)], h⟩
  · rw [List.getElem?_set_ne (fun z => hj z.symm)] at e
    obtain ⟨u, e1, e2⟩ := r.val j b e
    exact ⟨u, by rw [List.getElem?_set_ne (fun z => hj z.symm)]; exact e1, e2⟩
def wipeA (env : AEnv) : List Nat → AEnv
  | [] => env
  | v :: vs => (wipeA env vs).set v none
theorem Renv.off {ρ : List Addr} {H : Hp} {σ : L2.St} {env : AEnv} (r : Renv K H ρ σ env) (i : Nat) : Renv K H ρ (σ.set i none) (env.set i none) := by
  refine ⟨by rw [List.length_set, List.length_set]; exact r.len, fun j b e => ?_⟩
  by_cases hj : j = i
  · subst hj
    have hl : j < env.length := by
      have := (List.getElem?_eq_some_iff.mp e).1
      simpa using this
    rw [List.getElem?_set_self hl] at e
    cases e
  · rw [List.getElem?_set_ne (fun z => hj z.symm)] at e
    obtain ⟨u, e1, e2⟩ := r.val j b e
    exact ⟨u, by rw [List.getElem?_set_ne (fun z => hj z.symm)]; exact e1, e2⟩
theorem Renv.wipe {ρ : List Addr} {H : Hp} {σ : L2.St} {env : AEnv} (r : Renv K H ρ σ env) : ∀ vs : List Nat, Renv K H ρ (L2.wipe σ vs) (wipeA env vs)
  | [] => r
  | v :: vs => (Renv.wipe r vs).off v
/-! ### what is wanted of a result -/
abbrev WishX := Value → Option Addr → L2.St → Hp → Prop
def RD (ρ : List Addr) : Option Nat → Option Addr → Prop
  | none, none => True
  | some n, some a => ρ[n]? = some a
  | _, _ => False
def Post {α : Type} (K : PySem.W.Frag) (w : World) (ρ : List Addr) (H : Hp) (r : Res α) (R : α → Sto → List Addr → Hp → Prop) (X : Value → Option Addr → Hp → Prop) : Prop := match r with
  | .ok a st => ∀ ρ' H', Ext ρ ρ' H H' → Rel K w ρ' H' st → R a st ρ' H'
  | .ex c d st => ∀ ρ' H' dx, Ext ρ ρ' H H' → Rel K w ρ' H' st → RD ρ' d dx → X (.ref c) dx H'
  | .no => False
theorem Post.ext {α : Type} {w : World} {ρ ρ1 : List Addr} {H H1 : Hp} {r : Res α} {R : α → Sto → List Addr → Hp → Prop} {X : Value → Option Addr → Hp → Prop} (p : Post K w ρ H r R X) (e : Ext ρ ρ1 H H1) : Post K w ρ1 H1 r R X := by
  cases r with
  | ok a st => exact fun ρ' H' e' r' => p ρ' H' (e.trans e') r'
  | ex c d st => exact fun ρ' H' dx e' r' => p ρ' H' dx (e.trans e') r'
  | no => exact p
abbrev ME := AEnv → Sto → Res A
abbrev MT := AEnv → Sto → Res Bool
abbrev MA := AEnv → Sto → Res (List A)
def RE (K : PySem.W.Frag) (w : World) (W : WishX) (t : TE) (f : ME) : Prop := ∀ ρ H st σ env Q, Rel K w ρ H st → Renv K H ρ σ env → Post K w ρ H (f env st) (fun a _ ρ' H' => ∀ v, Rv K H' ρ' v a → Q v H') (W · · σ ·) → t σ H Q
def RT (K : PySem.W.Frag) (w : World) (W : WishX) (t : TT) (f : MT) : Prop := ∀ ρ H st σ env Q, Rel K w ρ H st → Renv K H ρ σ env → Post K w ρ H (f env st) (fun b _ _ H' => Q b H') (W · · σ ·) → t σ H Q
def RA (K : PySem.W.Frag) (w : World) (W : WishX) (t : TA) (f : MA) : Prop := ∀ ρ H st σ env Q, Rel K w ρ H st → Renv K H ρ σ env → Post K w ρ H (f env st) (fun xs _ ρ' H' => ∀ vs, Rvs K H' ρ' vs xs → Q vs H') (W · · σ ·) → t σ H Q
section
variable {w : World} {W : WishX} {ρ : List Addr} {H : Hp} {st : Sto} {σ : L2.St} {env : AEnv} {β : Type} {R : β → Sto → List Addr → Hp → Prop}
theorem RE.use {ta : TE} {f : ME} {k : A → Sto → Res β} {Q : VK} (h : RE K w W ta f) (rel : Rel K w ρ H st) (re : Renv K H ρ σ env) (p : Post K w ρ H ((f env st).bind k) R (W · · σ ·))
    (go : ∀ a s1 ρ1 H1 v, Ext ρ ρ1 H H1 → Rel K w ρ1 H1 s1 → Rv K H1 ρ1 v a → Post K w ρ1 H1 (k a s1) R (W · · σ ·) → Q v H1) : ta σ H Q := by
  refine h ρ H st σ env Q rel re ?_
  cases e : f env st with
  | ok a s1 =>
    rw [e] at p
    exact fun ρ1 H1 e1 r1 v hv => go a s1 ρ1 H1 v e1 r1 hv (Post.ext p e1)
  | ex c d s1 => rw [e] at p; exact p
  | no => rw [e] at p; exact p
theorem RT.use {ta : TT} {f : MT} {k : Bool → Sto → Res β} {Q : Bool → Hp → Prop} (h : RT K w W ta f) (rel : Rel K w ρ H st) (re : Renv K H ρ σ env) (p : Post K w ρ H ((f env st).bind k) R (W · · σ ·))
    (go : ∀ a s1 ρ1 H1, Ext ρ ρ1 H H1 → Rel K w ρ1 H1 s1 → Post K w ρ1 H1 (k a s1) R (W · · σ ·) → Q a H1) : ta σ H Q := by
  refine h ρ H st σ env Q rel re ?_
  cases e : f env st with
  | ok a s1 =>
    rw [e] at p
    exact fun ρ1 H1 e1 r1 => go a s1 ρ1 H1 e1 r1 (Post.ext p e1)
  | ex c d s1 => rw [e] at p; exact p
  | no => rw [e] at p; exact p
theorem RA.use {ta : TA} {f : MA} {k : List A → Sto → Res β} {Q : List V → Hp → Prop} (h : RA K w W ta f) (rel : Rel K w ρ H st) (re : Renv K H ρ σ env) (p : Post K w ρ H ((f env st).bind k) R (W · · σ ·))
    (go : ∀ a s1 ρ1 H1 v, Ext ρ ρ1 H H1 → Rel K w ρ1 H1 s1 → Rvs K H1 ρ1 v a → Post K w ρ1 H1 (k a s1) R (W · · σ ·) → Q v H1) : ta σ H Q := by
  refine h ρ H st σ env Q rel re ?_
  cases e : f env st with
  | ok a s1 =>
    rw [e] at p
    exact fun ρ1 H1 e1 r1 v hv => go a s1 ρ1 H1 v e1 r1 hv (Post.ext p e1)
  | ex c d s1 => rw [e] at p; exact p
  | no => rw [e] at p; exact p
/-- a result at last -/
theorem Post.give {a : A} {Q : VK} {v : V} {X : Value → Option Addr → Hp → Prop} (p : Post K w ρ H (.ok a st) (fun a _ ρ' H' => ∀ v, Rv K H' ρ' v a → Q v H') X) (rel : Rel K w ρ H st) (h : Rv K H ρ v a) : Q v H := p ρ H (Ext.refl ρ H) rel v h
/-- .. at another heap -/
theorem Post.giveAt {a : A} {Q : VK} {v : V} {X : Value → Option Addr → Hp → Prop} {ρ1 : List Addr} {H1 : Hp} {s1 : Sto} (p : Post K w ρ H (.ok a s1) (fun a _ ρ' H' => ∀ v, Rv K H' ρ' v a → Q v H') X) (e : Ext ρ ρ1 H H1) (rel : Rel K w ρ1 H1 s1) (h : Rv K H1 ρ1 v a) : Q v H1 := p ρ1 H1 e rel v h
end

/-! ### mirrors of expressions -/
def mVar (i : Nat) : ME := fun env st => match env[i]? with
  | some (some a) => .ok a st
  | _ => .no
def mC (a : A) : ME := fun _ st => .ok a st
def mOp (op : A → A → Sto → Res A) (f g : ME) : ME := fun env st => (f env st).bind fun x s1 => (g env s1).bind fun y s2 => op x y s2
def mUn (op : A → Sto → Res A) (f : ME) : ME := fun env st => (f env st).bind fun x s1 => op x s1
section
variable {w : World} {W : WishX}
theorem re_var {i : Nat} : RE K w W (tVar i) (mVar i) := fun ρ H st σ env Q rel re p => by
  unfold mVar at p
  split at p
  · rename_i a e
    obtain ⟨v, e1, e2⟩ := re.val i a e
    exact ⟨v, e1, p.give rel e2⟩
  · exact p.elim
theorem re_c {v : V} {a : A} (h : ∀ ρ H, Rv K H ρ v a) : RE K w W (tC v) (mC a) := fun ρ H st σ env Q rel re p => p.give rel (h ρ H)
theorem re_int {i : Int} : RE K w W (tC (.int i)) (mC (.int i)) := re_c fun _ _ => .int i
theorem re_str {i : Str} : RE K w W (tC (.str i)) (mC (.str i)) := re_c fun _ _ => .str i
theorem re_bl {i : Bool} : RE K w W (tC (.bl i)) (mC (.bl i)) := re_c fun _ _ => .bl i
theorem re_non : RE K w W (tC .non) (mC .non) := re_c fun _ _ => .non
def R2ok (K : PySem.W.Frag) (w : World) (r : R2) (op : A → A → Sto → Res A) : Prop := ∀ ρ H st x y a b Q X, Rel K w ρ H st → Rv K H ρ x a → Rv K H ρ y b → Post K w ρ H (op a b st) (fun a _ ρ' H' => ∀ v, Rv K H' ρ' v a → Q v H') X → r x y H Q
def R1ok (K : PySem.W.Frag) (w : World) (r : V → Hp → VK → Prop) (op : A → Sto → Res A) : Prop := ∀ ρ H st x a Q X, Rel K w ρ H st → Rv K H ρ x a → Post K w ρ H (op a st) (fun a _ ρ' H' => ∀ v, Rv K H' ρ' v a → Q v H') X → r x H Q
theorem re_op {r : R2} {op : A → A → Sto → Res A} {ta tb : TE} {f g : ME} (ho : R2ok K w r op) (hf : RE K w W ta f) (hg : RE K w W tb g) : RE K w W (tOp r ta tb) (mOp op f g) := fun ρ H st σ env Q rel re p =>
  hf.use rel re p fun a s1 ρ1 H1 x e1 r1 v1 p1 => hg.use r1 (re.ext e1) p1 fun b s2 ρ2 H2 y e2 r2 v2 p2 => ho ρ2 H2 s2 x y a b Q _ r2 (rv_ext e2 v1) v2 p2
theorem re_un {r : V → Hp → VK → Prop} {op : A → Sto → Res A} {ta : TE} {f : ME} (ho : R1ok K w r op) (hf : RE K w W ta f) : RE K w W (tUn r ta) (mUn op f) := fun ρ H st σ env Q rel re p =>
  hf.use rel re p fun a s1 ρ1 H1 x e1 r1 v1 p1 => ho ρ1 H1 s1 x a Q _ r1 v1 p1
/-! ### operators of whole numbers -/
def oI (C : Int → Int → Bool) (g : Int → Int → A) : A → A → Sto → Res A := fun a b st => match a, b with
  | .int i, .int j => if C i j = true then .ok (g i j) st else .no
  | _, _ => .no
def oI0 (g : Int → Int → A) : A → A → Sto → Res A := fun a b st => match a, b with
  | .int i, .int j => .ok (g i j) st
  | _, _ => .no
theorem r2_I0 {g : Int → Int → V} {g' : Int → Int → A} (hg : ∀ i j ρ H, Rv K H ρ (g i j) (g' i j)) : R2ok K w (rI0 g) (oI0 g') := fun ρ H st x y a b Q X rel ra rb p => by
  unfold oI0 at p
  split at p
  · cases ra
    cases rb
    exact ⟨_, _, rfl, rfl, p.give rel (hg _ _ _ _)⟩
  · exact p.elim
theorem r2_I {C : Int → Int → Prop} {C' : Int → Int → Bool} {g : Int → Int → V} {g' : Int → Int → A} (hC : ∀ i j, C' i j = true → C i j) (hg : ∀ i j ρ H, Rv K H ρ (g i j) (g' i j)) : R2ok K w (rI C g) (oI C' g') := fun ρ H st x y a b Q X rel ra rb p => by
  unfold oI at p
  split at p
  · cases ra
    cases rb
    split at p
    · rename_i hc
      exact ⟨_, _, rfl, rfl, hC _ _ hc, p.give rel (hg _ _ _ _)⟩
    · exact p.elim
  · exact p.elim
/-- two ways of one operator -/
def rOr (r r' : R2) : R2 := fun x y H Q => r x y H Q ∨ r' x y H Q
theorem OpR.or {X : Cx} {f : Value → Value → Sem Value} {r r' : R2} (h : OpR X f r) (h' : OpR X f r') : OpR X f (rOr r r') := fun pins s σ H x y v u Q I rx ry z => z.elim (fun z => h pins s σ H x y v u Q I rx ry z) (fun z => h' pins s σ H x y v u Q I rx ry z)
def oOr (c : A → A → Bool) (op op' : A → A → Sto → Res A) : A → A → Sto → Res A := fun a b st => if c a b = true then op a b st else op' a b st
theorem r2_or {r r' : R2} {c : A → A → Bool} {op op' : A → A → Sto → Res A} (h : R2ok K w r op) (h' : R2ok K w r' op') : R2ok K w (rOr r r') (oOr c op op') := fun ρ H st x y a b Q X rel ra rb p => by
  unfold oOr at p
  split at p
  · exact .inl (h ρ H st x y a b Q X rel ra rb p)
  · exact .inr (h' ρ H st x y a b Q X rel ra rb p)
def isInt : A → Bool
  | .int _ => true
  | _ => false
def isStr : A → Bool
  | .str _ => true
  | _ => false
def isTup : A → Bool
  | .tup _ => true
  | _ => false
def isRef : A → Bool
  | .ref _ => true
  | _ => false
/-! ### texts -/
def oS (C : Str → Str → Bool) (g : Str → Str → A) : A → A → Sto → Res A := fun a b st => match a, b with
  | .str i, .str j => if C i j = true then .ok (g i j) st else .no
  | _, _ => .no
theorem r2_addS : R2ok K w (fun x y H Q => ∃ i j, x = .str i ∧ y = .str j ∧ i.length + j.length ≤ sizeLine ∧ Q (.str (i ++ j)) H) (oS (fun i j => decide (i.length + j.length ≤ sizeLine)) fun i j => .str (i ++ j)) := fun ρ H st x y a b Q X rel ra rb p => by
  unfold oS at p
  split at p
  · cases ra
    cases rb
    split at p
    · rename_i hc
      exact ⟨_, _, rfl, rfl, of_decide_eq_true hc, p.give rel (.str _)⟩
    · exact p.elim
  · exact p.elim
theorem r2_cmpS {g : Str → Str → Bool} : R2ok K w (fun x y H Q => ∃ i j, x = .str i ∧ y = .str j ∧ Q (.bl (g i j)) H) (oS (fun _ _ => true) fun i j => .bl (g i j)) := fun ρ H st x y a b Q X rel ra rb p => by
  unfold oS at p
  split at p
  · cases ra
    cases rb
    exact ⟨_, _, rfl, rfl, p.give rel (.bl _)⟩
  · exact p.elim
/-! ### new objects -/
def newO (o : AO) (st : Sto) : Res A := .ok (.ref st.length) (st ++ [o])
theorem post_newL {ρ : List Addr} {H : Hp} {st : Sto} {vs : List V} {xs : List A} {Q : VK} {X : Value → Option Addr → Hp → Prop} (rel : Rel K w ρ H st) (rv : Rvs K H ρ vs xs) (p : Post K w ρ H (newO (.lst xs) st) (fun a _ ρ' H' => ∀ v, Rv K H' ρ' v a → Q v H') X) (q : Addr) (nq : H q = none) : Q (.ref q) (upd H q (.lst vs)) := by
  obtain ⟨e, r⟩ := rel.new (o := .lst xs) (u := .lst vs) nq fun H' e' h' => ⟨vs, h', rvs_ext e' rv⟩
  exact p.giveAt e r (.ref (rel.last q))
theorem post_newT {ρ : List Addr} {H : Hp} {st : Sto} {vs : List V} {xs : List A} {Q : VK} {X : Value → Option Addr → Hp → Prop} (rel : Rel K w ρ H st) (rv : Rvs K H ρ vs xs) (p : Post K w ρ H (.ok (.tup xs) st) (fun a _ ρ' H' => ∀ v, Rv K H' ρ' v a → Q v H') X) (q : Addr) (nq : H q = none) : Q (.ref q) (upd H q (.tup vs)) := by
  have s := same_upd (o := .tup vs) nq
  exact p.giveAt (Ext.same s) (rel.same s) (.tup (SqT.of upd_same) (rvs_ext (Ext.same s) rv))
/-- what a list holds -/
def getL (st : Sto) : A → Option (List A)
  | .lit xs => some xs
  | .ref n => match st[n]? with
    | some (.lst xs) => some xs
    | _ => none
  | _ => none
theorem getL_sq {ρ : List Addr} {H : Hp} {st : Sto} {v : V} {a : A} {xs : List A} (rel : Rel K w ρ H st) (h : Rv K H ρ v a) (e : getL st a = some xs) : ∃ p vs, v = .ref p ∧ SqL K H p vs ∧ Rvs K H ρ vs xs := by
  cases h with
  | lit h hs =>
    cases e
    exact ⟨_, _, rfl, lit_sq h, hs⟩
  | ref h =>
    unfold getL at e
    simp only at e
    split at e
    · rename_i ys e1
      cases e
      obtain ⟨vs, h1, h2⟩ := rel.get h e1
      exact ⟨_, _, rfl, SqL.of h1, h2⟩
    · cases e
  | _ => cases e
def getM (st : Sto) : A → Option (Nat × List A)
  | .ref n => match st[n]? with
    | some (.lst xs) => some (n, xs)
    | _ => none
  | _ => none
theorem getM_is {ρ : List Addr} {H : Hp} {st : Sto} {v : V} {a : A} {n : Nat} {xs : List A} (rel : Rel K w ρ H st) (h : Rv K H ρ v a) (e : getM st a = some (n, xs)) : ∃ p vs, v = .ref p ∧ ρ[n]? = some p ∧ H p = some (.lst vs) ∧ Rvs K H ρ vs xs := by
  cases h with
  | ref h =>
    unfold getM at e
    simp only at e
    split at e
    · rename_i ys e1
      cases e
      obtain ⟨vs, h1, h2⟩ := rel.get h e1
      exact ⟨_, _, rfl, h, h1, h2⟩
    · cases e
  | _ => cases e
def getT : A → Option (List A)
  | .tup xs => some xs
  | _ => none
theorem getT_sq {ρ : List Addr} {H : Hp} {v : V} {a : A} {xs : List A} (h : Rv K H ρ v a) (e : getT a = some xs) : ∃ p vs, v = .ref p ∧ SqT K H p vs ∧ Rvs K H ρ vs xs := by
  cases h with
  | tup h hs =>
    cases e
    exact ⟨_, _, rfl, h, hs⟩
  | _ => cases e
/-! ### + of lists and tuples, * of a list -/
def oCat : A → A → Sto → Res A := fun a b st => match getM st a, getM st b with
  | some (_, xs), some (_, ys) => if xs.length + ys.length ≤ sizeLine then newO (.lst (xs ++ ys)) st else .no
  | _, _ => .no
theorem r2_cat : R2ok K w rCat oCat := fun ρ H st x y a b Q X rel ra rb p => by
  unfold oCat at p
  split at p
  · rename_i n xs m ys e1 e2
    obtain ⟨q, vs, rfl, _, h1, h2⟩ := getM_is rel ra e1
    obtain ⟨q', us, rfl, _, h3, h4⟩ := getM_is rel rb e2
    split at p
    · rename_i hl
      exact ⟨_, _, _, _, rfl, rfl, h1, h3, by rw [h2.length, h4.length]; exact hl, fun z nz => post_newL rel (h2.append h4) p z nz⟩
    · exact p.elim
  · exact p.elim
def oCatT : A → A → Sto → Res A := fun a b st => match a, b with
  | .tup xs, .tup ys => if xs.length + ys.length ≤ sizeLine then .ok (.tup (xs ++ ys)) st else .no
  | _, _ => .no
theorem r2_catT : R2ok K w (rCatA K) oCatT := fun ρ H st x y a b Q X rel ra rb p => by
  unfold oCatT at p
  split at p
  · rename_i xs ys
    obtain ⟨q, vs, rfl, h1, h2⟩ := getT_sq ra rfl
    obtain ⟨q', us, rfl, h3, h4⟩ := getT_sq rb rfl
    split at p
    · rename_i hl
      refine ⟨_, _, _, _, rfl, rfl, h1, h3, by rw [h2.length, h4.length]; exact hl, fun z => ?_, fun _ z => ?_, fun _ _ z nz => post_newT rel (h2.append h4) p z nz⟩
      · subst z
        cases h2
        exact p.give rel rb
      · subst z
        cases h4
        rw [List.append_nil] at p
        exact p.give rel ra
    · exact p.elim
  · exact p.elim
def oRep : A → A → Sto → Res A := fun a b st => match getM st a, b with
  | some (_, xs), .int k => if -(2 ^ 63) ≤ k ∧ k < 2 ^ 63 ∧ xs.length * k.toNat ≤ sizeLine then newO (.lst (List.replicate k.toNat xs).flatten) st else .no
  | _, _ => .no
theorem rvs_rep {ρ : List Addr} {H : Hp} {vs : List V} {xs : List A} (h : Rvs K H ρ vs xs) : ∀ n : Nat, Rvs K H ρ (List.replicate n vs).flatten (List.replicate n xs).flatten
  | 0 => .nil
  | n + 1 => by
    rw [List.replicate_succ, List.replicate_succ, List.flatten_cons, List.flatten_cons]
    exact h.append (rvs_rep h n)
theorem r2_rep : R2ok K w rRep oRep := fun ρ H st x y a b Q X rel ra rb p => by
  unfold oRep at p
  split at p
  · rename_i n xs k e1
    obtain ⟨q, vs, rfl, _, h1, h2⟩ := getM_is rel ra e1
    cases rb
    split at p
    · rename_i hl
      exact ⟨_, _, _, rfl, rfl, h1, hl.1, hl.2.1, by rw [h2.length]; exact hl.2.2, fun z nz => post_newL rel (rvs_rep h2 _) p z nz⟩
    · exact p.elim
  · exact p.elim
/-! ### an item -/
theorem rvs_atI {ρ : List Addr} {H : Hp} {vs : List V} {xs : List A} {i : Int} {a : A} (h : Rvs K H ρ vs xs) (e : atI xs i = some a) : ∃ v, atI vs i = some v ∧ Rv K H ρ v a := by
  unfold atI at e ⊢
  rw [h.length]
  cases hj : ixN xs.length i with
  | none => rw [hj] at e; cases e
  | some j =>
    rw [hj] at e
    exact h.get e
def oIx : A → A → Sto → Res A := fun a b st => match b with
  | .int i => match getL st a with
    | some xs => lift (atI xs i) st
    | none => .no
  | _ => .no
def oIxT : A → A → Sto → Res A := fun a b st => match a, b with
  | .tup xs, .int i => lift (atI xs i) st
  | _, _ => .no
def oIxS : A → A → Sto → Res A := fun a b st => match a, b with
  | .str z, .int i => if z.length ≤ sizeLine then lift ((atI z.cps.toList i).map fun c => A.str ⟨#[c]⟩) st else .no
  | _, _ => .no
theorem r2_ix : R2ok K w (rIxL K) oIx := fun ρ H st x y a b Q X rel ra rb p => by
  unfold oIx at p
  split at p
  · rename_i i
    cases rb
    split at p
    · rename_i xs e1
      obtain ⟨q, vs, rfl, h1, h2⟩ := getL_sq rel ra e1
      cases e : atI xs i with
      | none => rw [e] at p; exact p.elim
      | some c =>
        rw [e] at p
        obtain ⟨v, e2, e3⟩ := rvs_atI h2 e
        exact ⟨_, _, _, _, rfl, rfl, h1, e2, p.give rel e3⟩
    · exact p.elim
  · exact p.elim
theorem r2_ixT : R2ok K w (rIxT K) oIxT := fun ρ H st x y a b Q X rel ra rb p => by
  unfold oIxT at p
  split at p
  · rename_i xs i
    cases rb
    obtain ⟨q, vs, rfl, h1, h2⟩ := getT_sq ra rfl
    cases e : atI xs i with
    | none => rw [e] at p; exact p.elim
    | some c =>
      rw [e] at p
      obtain ⟨v, e2, e3⟩ := rvs_atI h2 e
      exact ⟨_, _, _, _, rfl, rfl, h1, e2, p.give rel e3⟩
  · exact p.elim
theorem r2_ixS : R2ok K w rIxS oIxS := fun ρ H st x y a b Q X rel ra rb p => by
  unfold oIxS at p
  split at p
  · rename_i z i
    cases ra
    cases rb
    split at p
    · rename_i hl
      cases e : atI z.cps.toList i with
      | none => rw [e] at p; exact p.elim
      | some c =>
        rw [e] at p
        exact ⟨_, _, _, rfl, rfl, hl, e, p.give rel (.str _)⟩
    · exact p.elim
  · exact p.elim
theorem IxR.or {X : Cx} {r r' : R2} (h : IxR X r) (h' : IxR X r') : IxR X (rOr r r') := fun value slice pins s σ H x y v u Q I rx ry z hs => z.elim (fun z => h value slice pins s σ H x y v u Q I rx ry z hs) (fun z => h' value slice pins s σ H x y v u Q I rx ry z hs)
end

/-! ### mirrors: data, equality -/
def allD (f : A → Option PyData) : List A → Option (List PyData)
  | [] => some []
  | x :: xs => match f x, allD f xs with
    | some d, some ds => some (d :: ds)
    | _, _ => none
def dat (st : Sto) : Nat → A → Option PyData
  | _, .non => some .none
  | _, .bl b => some (.bool b)
  | _, .int i => some (.int i)
  | _, .str x => some (.str x)
  | n + 1, .tup xs => (allD (dat st n) xs).map .tuple
  | n + 1, .lit xs => (allD (dat st n) xs).map .list
  | n + 1, .ref m => match st[m]? with
    | some (.lst xs) => (allD (dat st n) xs).map .list
    | _ => none
  | _, _ => none
section
variable {w : World} {W : WishX}
theorem allD_dp {ρ : List Addr} {H : Hp} {f : A → Option PyData} (hf : ∀ v a d, Rv K H ρ v a → f a = some d → Dp K H v d) : ∀ {vs : List V} {xs : List A} {ds : List PyData}, Rvs K H ρ vs xs → allD f xs = some ds → DpAll K H vs ds
  | _, _, _, .nil, e => by cases e; exact .nil
  | _, _, _, .cons (xs := xs) h hs, e => by
    unfold allD at e
    split at e
    · rename_i d ds e1 e2
      cases e
      exact .cons (hf _ _ _ h e1) (allD_dp hf hs e2)
    · cases e
theorem dat_dp {ρ : List Addr} {H : Hp} {st : Sto} (rel : Rel K w ρ H st) : ∀ (n : Nat) (v : V) (a : A) (d : PyData), Rv K H ρ v a → dat st n a = some d → Dp K H v d
  | n, _, .non, _, h, e => by cases h; cases n <;> (cases e; exact .non)
  | n, _, .bl b, _, h, e => by cases h; cases n <;> (cases e; exact .bl b)
  | n, _, .int b, _, h, e => by cases h; cases n <;> (cases e; exact .int b)
  | n, _, .str b, _, h, e => by cases h; cases n <;> (cases e; exact .str b)
  | 0, _, .tup _, _, _, e => by cases e
  | 0, _, .lit _, _, _, e => by cases e
  | 0, _, .ref _, _, _, e => by cases e
  | n, _, .adr _, _, _, e => by cases n <;> cases e
  | n, _, .ty _, _, _, e => by cases n <;> cases e
  | n + 1, _, .tup xs, _, h, e => by
    cases h with
    | tup h hs =>
      obtain ⟨ds, e1, rfl⟩ := Option.map_eq_some_iff.mp (show (allD (dat st n) xs).map PyData.tuple = some _ from e)
      exact .tup h (allD_dp (dat_dp rel n) hs e1)
  | n + 1, _, .lit xs, _, h, e => by
    cases h with
    | lit h hs =>
      obtain ⟨ds, e1, rfl⟩ := Option.map_eq_some_iff.mp (show (allD (dat st n) xs).map PyData.list = some _ from e)
      exact .lst (lit_sq h) (allD_dp (dat_dp rel n) hs e1)
  | n + 1, _, .ref m, _, h, e => by
    cases h with
    | ref h =>
      unfold dat at e
      split at e
      · rename_i xs e0
        obtain ⟨ds, e1, rfl⟩ := Option.map_eq_some_iff.mp e
        obtain ⟨vs, h1, h2⟩ := rel.get h e0
        exact .lst (SqL.of h1) (allD_dp (dat_dp rel n) h2 e1)
      · cases e
/-- == of two scalars -/
def eqS : A → A → Option Bool
  | .non, .non => some true
  | .non, .int _ => some false
  | .int _, .non => some false
  | .non, .bl _ => some false
  | .bl _, .non => some false
  | .non, .str _ => some false
  | .str _, .non => some false
  | .int i, .int j => some (decide (i = j))
  | .bl i, .bl j => some (decide (i = j))
  | .str i, .str j => some (decide (i = j))
  | .int _, .str _ => some false
  | .str _, .int _ => some false
  | .bl _, .str _ => some false
  | .str _, .bl _ => some false
  | _, _ => none
theorem eqS_scal {ρ : List Addr} {H : Hp} {x y : V} {a b : A} {c : Bool} (ra : Rv K H ρ x a) (rb : Rv K H ρ y b) (e : eqS a b = some c) : scal x y = true ∧ decide (x = y) = c := by
  cases ra <;> cases rb <;> first
    | (cases e; exact ⟨rfl, rfl⟩)
    | (cases e; exact ⟨rfl, by simp⟩)
    | (cases e)
def deep : Nat := 30
def eqA (st : Sto) (a b : A) : Option Bool := match eqS a b with
  | some c => some c
  | none => match dat st deep a, dat st deep b with
    | some d, some e => if SeqAt.shaped d = true ∧ SeqAt.shaped e = true then some (PyData.eqv d e) else none
    | _, _ => none
def oEq : A → A → Sto → Res A := fun a b st => lift ((eqA st a b).map A.bl) st
def oNe : A → A → Sto → Res A := fun a b st => lift ((eqA st a b).map fun c => A.bl (!c)) st
theorem r2_eq : R2ok K w (rOr rEq (rEqD K)) oEq := fun ρ H st x y a b Q X rel ra rb p => by
  unfold oEq eqA at p
  cases e : eqS a b with
  | some c =>
    rw [e] at p
    obtain ⟨h1, h2⟩ := eqS_scal ra rb e
    exact .inl ⟨h1, p.give rel (by rw [h2]; exact .bl c)⟩
  | none =>
    rw [e] at p
    simp only at p
    split at p
    · rename_i d d' e1 e2
      split at p
      · rename_i hs
        exact .inr ⟨d, d', dat_dp rel _ _ _ _ ra e1, dat_dp rel _ _ _ _ rb e2, hs.1, hs.2, p.give rel (.bl _)⟩
      · exact p.elim
    · exact p.elim
theorem r2_ne : R2ok K w (rOr rNe (rNeD K)) oNe := fun ρ H st x y a b Q X rel ra rb p => by
  unfold oNe eqA at p
  cases e : eqS a b with
  | some c =>
    rw [e] at p
    obtain ⟨h1, h2⟩ := eqS_scal ra rb e
    exact .inl ⟨h1, p.give rel (by rw [h2]; exact .bl _)⟩
  | none =>
    rw [e] at p
    simp only at p
    split at p
    · rename_i d d' e1 e2
      split at p
      · rename_i hs
        exact .inr ⟨d, d', dat_dp rel _ _ _ _ ra e1, dat_dp rel _ _ _ _ rb e2, hs.1, hs.2, p.give rel (.bl _)⟩
      · exact p.elim
    · exact p.elim
/-- is None -/
def isNon : A → Bool
  | .non => true
  | _ => false
theorem isNon_rv {ρ : List Addr} {H : Hp} {x : V} {a : A} (h : Rv K H ρ x a) : decide (x = .non) = isNon a := by
  cases h <;> simp [isNon]
def oIs : A → A → Sto → Res A := fun a b st => match b with
  | .non => .ok (.bl (isNon a)) st
  | _ => .no
def oIsNot : A → A → Sto → Res A := fun a b st => match b with
  | .non => .ok (.bl (!isNon a)) st
  | _ => .no
theorem r2_is : R2ok K w (fun x y H Q => y = .non ∧ Q (.bl (decide (x = .non))) H) oIs := fun ρ H st x y a b Q X rel ra rb p => by
  unfold oIs at p
  split at p
  · cases rb
    exact ⟨rfl, p.give rel (by rw [isNon_rv ra]; exact .bl _)⟩
  · exact p.elim
theorem r2_isnot : R2ok K w (fun x y H Q => y = .non ∧ Q (.bl (!decide (x = .non))) H) oIsNot := fun ρ H st x y a b Q X rel ra rb p => by
  unfold oIsNot at p
  split at p
  · cases rb
    exact ⟨rfl, p.give rel (by rw [isNon_rv ra]; exact .bl _)⟩
  · exact p.elim
/-- in, of a list or tuple -/
def getS (st : Sto) (a : A) : Option (List A) := match getT a with
  | some xs => some xs
  | none => getL st a
theorem getS_sq {ρ : List Addr} {H : Hp} {st : Sto} {v : V} {a : A} {xs : List A} (rel : Rel K w ρ H st) (h : Rv K H ρ v a) (e : getS st a = some xs) : ∃ p vs, v = .ref p ∧ (SqL K H p vs ∨ SqT K H p vs) ∧ Rvs K H ρ vs xs := by
  unfold getS at e
  split at e
  · rename_i ys e1
    cases e
    obtain ⟨p, vs, e2, h1, h2⟩ := getT_sq h e1
    exact ⟨p, vs, e2, .inr h1, h2⟩
  · obtain ⟨p, vs, e2, h1, h2⟩ := getL_sq rel h e
    exact ⟨p, vs, e2, .inl h1, h2⟩
def flatA : A → Bool
  | .non => true
  | .bl _ => true
  | .int _ => true
  | .str _ => true
  | _ => false
def eqF : A → A → Bool
  | .non, .non => true
  | .bl a, .bl b => a == b
  | .bl a, .int b => (if a then 1 else 0) == b
  | .int a, .bl b => a == (if b then 1 else 0)
  | .int a, .int b => a == b
  | .str a, .str b => a == b
  | _, _ => false
theorem flat_rv {ρ : List Addr} {H : Hp} {x : V} {a : A} (h : Rv K H ρ x a) (f : flatA a = true) : flatV x = true := by
  cases h <;> first | rfl | (cases f)
theorem eqF_rv {ρ : List Addr} {H : Hp} {x y : V} {a b : A} (ha : Rv K H ρ x a) (hb : Rv K H ρ y b) (fa : flatA a = true) (fb : flatA b = true) : eqV x y = eqF a b := by
  cases ha <;> cases hb <;> first | rfl | (cases fa) | (cases fb)
theorem flats_rv {ρ : List Addr} {H : Hp} : ∀ {vs : List V} {xs : List A}, Rvs K H ρ vs xs → xs.all flatA = true → vs.all flatV = true
  | _, _, .nil, _ => rfl
  | _, _, .cons h hs, f => by
    rw [List.all_cons, Bool.and_eq_true] at f
    rw [List.all_cons, flat_rv h f.1, flats_rv hs f.2]
    rfl
theorem inF_rv {ρ : List Addr} {H : Hp} {x : V} {a : A} (ha : Rv K H ρ x a) (fa : flatA a = true) : ∀ {vs : List V} {xs : List A}, Rvs K H ρ vs xs → xs.all flatA = true → inV x vs = xs.any fun y => eqF y a
  | _, _, .nil, _ => rfl
  | _, _, .cons h hs, f => by
    rw [List.all_cons, Bool.and_eq_true] at f
    unfold inV
    rw [List.any_cons, List.any_cons, eqF_rv h ha f.1 fa]
    have := inF_rv ha fa hs f.2
    unfold inV at this
    rw [this]
def inA (st : Sto) (a b : A) : Option Bool := match getS st b with
  | some xs => if flatA a = true ∧ xs.all flatA = true then some (xs.any fun y => eqF y a) else none
  | none => none
def oInF : A → A → Sto → Res A := fun a b st => lift ((inA st a b).map A.bl) st
def oNotInF : A → A → Sto → Res A := fun a b st => lift ((inA st a b).map fun c => A.bl (!c)) st
theorem r2_inF : R2ok K w (rIn K false) oInF := fun ρ H st x y a b Q X rel ra rb p => by
  unfold oInF inA at p
  split at p
  · rename_i xs e
    obtain ⟨q, vs, rfl, h1, h2⟩ := getS_sq rel rb e
    split at p
    · rename_i hf
      exact ⟨q, vs, rfl, h1, flat_rv ra hf.1, flats_rv h2 hf.2, p.give rel (by rw [inF_rv ra hf.1 h2 hf.2]; exact .bl _)⟩
    · exact p.elim
  · exact p.elim
theorem r2_notInF : R2ok K w (rIn K true) oNotInF := fun ρ H st x y a b Q X rel ra rb p => by
  unfold oNotInF inA at p
  split at p
  · rename_i xs e
    obtain ⟨q, vs, rfl, h1, h2⟩ := getS_sq rel rb e
    split at p
    · rename_i hf
      exact ⟨q, vs, rfl, h1, flat_rv ra hf.1, flats_rv h2 hf.2, p.give rel (by rw [inF_rv ra hf.1 h2 hf.2]; exact .bl _)⟩
    · exact p.elim
  · exact p.elim
/-- in, of a list of data -/
def inD (st : Sto) (a b : A) : Option Bool := match dat st deep a, dat st deep b with
  | some d, some (.list ds) => if SeqAt.shaped d = true ∧ SeqAt.shaped (.list ds) = true then some (ds.any fun z => PyData.eqv z d) else none
  | _, _ => none
def oInD : A → A → Sto → Res A := fun a b st => lift ((inD st a b).map A.bl) st
def oNotInD : A → A → Sto → Res A := fun a b st => lift ((inD st a b).map fun c => A.bl (!c)) st
theorem r2_inD : R2ok K w (rInD K) oInD := fun ρ H st x y a b Q X rel ra rb p => by
  unfold oInD inD at p
  split at p
  · rename_i d ds e1 e2
    split at p
    · rename_i hs
      exact ⟨_, _, dat_dp rel _ _ _ _ ra e1, dat_dp rel _ _ _ _ rb e2, hs.1, hs.2, p.give rel (.bl _)⟩
    · exact p.elim
  · exact p.elim
theorem r2_notInD : R2ok K w (rNotInD K) oNotInD := fun ρ H st x y a b Q X rel ra rb p => by
  unfold oNotInD inD at p
  split at p
  · rename_i d ds e1 e2
    split at p
    · rename_i hs
      exact ⟨_, _, dat_dp rel _ _ _ _ ra e1, dat_dp rel _ _ _ _ rb e2, hs.1, hs.2, p.give rel (.bl _)⟩
    · exact p.elim
  · exact p.elim
/-- a sign in a text -/
def oInS (neg : Bool) : A → A → Sto → Res A := fun a b st => match a, b with
  | .str x, .str z => match x.cps.toList with
    | [c] => .ok (.bl (if neg then !decide (c ∈ z.cps.toList) else decide (c ∈ z.cps.toList))) st
    | _ => .no
  | _, _ => .no
theorem one_sign {x : Str} {c : Nat} (h : x.cps.toList = [c]) : x = ⟨#[c]⟩ := by
  obtain ⟨a⟩ := x
  have : a = #[c] := by
    apply Array.ext'
    simpa using h
  rw [this]
theorem r2_inS : R2ok K w (fun x y H Q => ∃ (c : Nat) (z : Str), x = .str ⟨#[c]⟩ ∧ y = .str z ∧ Q (.bl (decide (c ∈ z.cps.toList))) H) (oInS false) := fun ρ H st x y a b Q X rel ra rb p => by
  unfold oInS at p
  split at p
  · split at p
    · rename_i c hc
      cases ra
      cases rb
      exact ⟨c, _, by rw [one_sign hc], rfl, p.give rel (.bl _)⟩
    · exact p.elim
  · exact p.elim
theorem r2_notInS : R2ok K w (fun x y H Q => ∃ (c : Nat) (z : Str), x = .str ⟨#[c]⟩ ∧ y = .str z ∧ Q (.bl (!decide (c ∈ z.cps.toList))) H) (oInS true) := fun ρ H st x y a b Q X rel ra rb p => by
  unfold oInS at p
  split at p
  · split at p
    · rename_i c hc
      cases ra
      cases rb
      exact ⟨c, _, by rw [one_sign hc], rfl, p.give rel (.bl _)⟩
    · exact p.elim
  · exact p.elim
/-! ### tests, and, or, not, a if t else b -/
def mTest (f : ME) : MT := fun env st => (f env st).bind fun a s => match a with
  | .bl b => .ok b s
  | _ => .no
def mNotT (f : MT) : MT := fun env st => (f env st).bind fun b s => .ok (!b) s
def mAndT (f g : MT) : MT := fun env st => (f env st).bind fun b s => if b = true then g env s else .ok false s
def mOrT (f g : MT) : MT := fun env st => (f env st).bind fun b s => if b = true then .ok true s else g env s
def mIfE (c : MT) (f g : ME) : ME := fun env st => (c env st).bind fun b s => if b = true then f env s else g env s
def mNot (f : ME) : ME := fun env st => (f env st).bind fun a s => match a with
  | .bl b => .ok (.bl (!b)) s
  | _ => .no
def mAnd (f g : ME) : ME := fun env st => (f env st).bind fun a s => match a with
  | .bl b => if b = true then g env s else .ok (.bl false) s
  | _ => .no
def mOr (f g : ME) : ME := fun env st => (f env st).bind fun a s => match a with
  | .bl b => if b = true then .ok (.bl true) s else g env s
  | _ => .no
theorem Post.giveB {ρ : List Addr} {H : Hp} {st : Sto} {b : Bool} {Q : Bool → Hp → Prop} {X : Value → Option Addr → Hp → Prop} (p : Post K w ρ H (.ok b st) (fun b _ _ H' => Q b H') X) (rel : Rel K w ρ H st) : Q b H := p ρ H (Ext.refl ρ H) rel
theorem rt_test {t : TE} {f : ME} (hf : RE K w W t f) : RT K w W (tTest t) (mTest f) := fun ρ H st σ env Q rel re p =>
  hf.use rel re p fun a s1 ρ1 H1 x e1 r1 v1 p1 => by
    split at p1
    · cases v1
      exact ⟨_, rfl, p1.giveB r1⟩
    · exact p1.elim
theorem rt_val {t : TE} {f : ME} (hf : RE K w W t f) : RT K w W (tB t) (mTest f) := rt_test hf
theorem rt_not {t : TT} {f : MT} (hf : RT K w W t f) : RT K w W (tNot t) (mNotT f) := fun ρ H st σ env Q rel re p =>
  hf.use rel re p fun a s1 ρ1 H1 e1 r1 p1 => p1.giveB r1
theorem rt_and {t u : TT} {f g : MT} (hf : RT K w W t f) (hg : RT K w W u g) : RT K w W (tAnd t u) (mAndT f g) := fun ρ H st σ env Q rel re p =>
  hf.use rel re p fun a s1 ρ1 H1 e1 r1 p1 => by
    cases a with
    | true => exact iteT (hg ρ1 H1 s1 σ env Q r1 (re.ext e1) p1)
    | false => exact iteF (p1.giveB r1)
theorem rt_or {t u : TT} {f g : MT} (hf : RT K w W t f) (hg : RT K w W u g) : RT K w W (tOr t u) (mOrT f g) := fun ρ H st σ env Q rel re p =>
  hf.use rel re p fun a s1 ρ1 H1 e1 r1 p1 => by
    cases a with
    | true => exact iteT (p1.giveB r1)
    | false => exact iteF (hg ρ1 H1 s1 σ env Q r1 (re.ext e1) p1)
theorem re_if {c : TT} {t u : TE} {m : MT} {f g : ME} (hc : RT K w W c m) (hf : RE K w W t f) (hg : RE K w W u g) : RE K w W (tIf c t u) (mIfE m f g) := fun ρ H st σ env Q rel re p =>
  hc.use rel re p fun a s1 ρ1 H1 e1 r1 p1 => by
    cases a with
    | true => exact iteT (hf ρ1 H1 s1 σ env Q r1 (re.ext e1) p1)
    | false => exact iteF (hg ρ1 H1 s1 σ env Q r1 (re.ext e1) p1)
theorem re_not {t : TE} {f : ME} (hf : RE K w W t f) : RE K w W (tNotV t) (mNot f) := fun ρ H st σ env Q rel re p =>
  hf.use rel re p fun a s1 ρ1 H1 x e1 r1 v1 p1 => by
    split at p1
    · cases v1
      exact ⟨_, rfl, p1.give r1 (.bl _)⟩
    · exact p1.elim
theorem re_and {t u : TE} {f g : ME} (hf : RE K w W t f) (hg : RE K w W u g) : RE K w W (tAndV t u) (mAnd f g) := fun ρ H st σ env Q rel re p =>
  hf.use rel re p fun a s1 ρ1 H1 x e1 r1 v1 p1 => by
    split at p1
    · rename_i b
      cases v1
      cases b with
      | true => exact ⟨_, rfl, iteT (hg ρ1 H1 s1 σ env Q r1 (re.ext e1) p1)⟩
      | false => exact ⟨_, rfl, iteF (p1.give r1 (.bl _))⟩
    · exact p1.elim
theorem re_or {t u : TE} {f g : ME} (hf : RE K w W t f) (hg : RE K w W u g) : RE K w W (tOrV t u) (mOr f g) := fun ρ H st σ env Q rel re p =>
  hf.use rel re p fun a s1 ρ1 H1 x e1 r1 v1 p1 => by
    split at p1
    · rename_i b
      cases v1
      cases b with
      | true => exact ⟨_, rfl, iteT (p1.give r1 (.bl _))⟩
      | false => exact ⟨_, rfl, iteF (hg ρ1 H1 s1 σ env Q r1 (re.ext e1) p1)⟩
    · exact p1.elim
/-- a < b < c -/
def mChain (o o' : A → A → Sto → Res A) (f g h : ME) : ME := fun env st => (f env st).bind fun x s1 => (g env s1).bind fun y s2 => (o x y s2).bind fun z s3 => match z with
  | .bl true => (h env s3).bind fun u s4 => o' y u s4
  | .bl false => .ok (.bl false) s3
  | _ => .no
/-! ### arguments, displays -/
def mNil : MA := fun _ st => .ok [] st
def mCons (f : ME) (g : MA) : MA := fun env st => (f env st).bind fun x s1 => (g env s1).bind fun xs s2 => .ok (x :: xs) s2
theorem ra_nil : RA K w W tNil mNil := fun ρ H st σ env Q rel re p => p ρ H (Ext.refl ρ H) rel [] .nil
theorem ra_cons {t : TE} {u : TA} {f : ME} {g : MA} (hf : RE K w W t f) (hg : RA K w W u g) : RA K w W (tCons t u) (mCons f g) := fun ρ H st σ env Q rel re p =>
  hf.use rel re p fun a s1 ρ1 H1 x e1 r1 v1 p1 => hg.use r1 (re.ext e1) p1 fun as s2 ρ2 H2 xs e2 r2 v2 p2 => p2 ρ2 H2 (Ext.refl _ _) r2 _ (.cons (rv_ext e2 v1) v2)
def mTup (f : MA) : ME := fun env st => (f env st).bind fun xs s => if xs.length ≤ sizeLine then .ok (.tup xs) s else .no
def mLst (f : MA) : ME := fun env st => (f env st).bind fun xs s => if xs.length ≤ sizeLine then newO (.lst xs) s else .no
theorem re_tup {t : TA} {f : MA} (hf : RA K w W t f) : RE K w W (tTup t) (mTup f) := fun ρ H st σ env Q rel re p =>
  hf.use rel re p fun a s1 ρ1 H1 x e1 r1 v1 p1 => by
    split at p1
    · rename_i hl
      exact ⟨by rw [v1.length]; exact hl, fun q nq => post_newT r1 v1 p1 q nq⟩
    · exact p1.elim
theorem re_lst {t : TA} {f : MA} (hf : RA K w W t f) : RE K w W (tLst t) (mLst f) := fun ρ H st σ env Q rel re p =>
  hf.use rel re p fun a s1 ρ1 H1 x e1 r1 v1 p1 => by
    split at p1
    · rename_i hl
      exact ⟨by rw [v1.length]; exact hl, fun q nq => post_newL r1 v1 p1 q nq⟩
    · exact p1.elim
end

/-! ### mirrors: chains, slices, built-ins -/
section
variable {w : World} {W : WishX}
theorem R2ok.use {r : R2} {op : A → A → Sto → Res A} {ρ : List Addr} {H : Hp} {st : Sto} {x y : V} {a b : A} {β : Type} {R : β → Sto → List Addr → Hp → Prop} {X : Value → Option Addr → Hp → Prop} {k : A → Sto → Res β} {Q : VK} (h : R2ok K w r op) (rel : Rel K w ρ H st) (ra : Rv K H ρ x a) (rb : Rv K H ρ y b) (p : Post K w ρ H ((op a b st).bind k) R X)
    (go : ∀ c s1 ρ1 H1 v, Ext ρ ρ1 H H1 → Rel K w ρ1 H1 s1 → Rv K H1 ρ1 v c → Post K w ρ1 H1 (k c s1) R X → Q v H1) : r x y H Q := by
  refine h ρ H st x y a b Q X rel ra rb ?_
  cases e : op a b st with
  | ok c s1 =>
    rw [e] at p
    exact fun ρ1 H1 e1 r1 v hv => go c s1 ρ1 H1 v e1 r1 hv (Post.ext p e1)
  | ex c d s1 => rw [e] at p; exact p
  | no => rw [e] at p; exact p
theorem re_chain {r r' : R2} {o o' : A → A → Sto → Res A} {ta tb tc : TE} {f g h : ME} (ho : R2ok K w r o) (ho' : R2ok K w r' o') (hf : RE K w W ta f) (hg : RE K w W tb g) (hh : RE K w W tc h) : RE K w W (tChain r r' ta tb tc) (mChain o o' f g h) := fun ρ H st σ env Q rel re p =>
  hf.use rel re p fun a s1 ρ1 H1 x e1 r1 v1 p1 => hg.use r1 (re.ext e1) p1 fun b s2 ρ2 H2 y e2 r2 v2 p2 => ho.use r2 (rv_ext e2 v1) v2 p2 fun c s3 ρ3 H3 z e3 r3 v3 p3 => by
    split at p3
    · cases v3
      exact ⟨true, rfl, iteT (hh.use r3 (re.ext (e1.trans (e2.trans e3))) p3 fun d s4 ρ4 H4 u e4 r4 v4 p4 => ho' ρ4 H4 s4 y u b d Q _ r4 (rv_ext (e3.trans e4) v2) v4 p4)⟩
    · cases v3
      exact ⟨false, rfl, iteF (p3.give r3 (.bl _))⟩
    · exact p3.elim
/-! ### slices -/
abbrev MO := AEnv → Sto → Res (Option Int)
def RO (K : PySem.W.Frag) (w : World) (W : WishX) (t : TO) (f : MO) : Prop := ∀ ρ H st σ env Q, Rel K w ρ H st → Renv K H ρ σ env → Post K w ρ H (f env st) (fun o _ _ H' => Q o H') (W · · σ ·) → t σ H Q
def mNoPart : MO := fun _ st => .ok none st
def mPart (f : ME) : MO := fun env st => (f env st).bind fun a s => match a with
  | .int i => .ok (some i) s
  | _ => .no
theorem ro_none : RO K w W tNoPart mNoPart := fun ρ H st σ env Q rel re p => p ρ H (Ext.refl ρ H) rel
theorem ro_some {t : TE} {f : ME} (hf : RE K w W t f) : RO K w W (tPart t) (mPart f) := fun ρ H st σ env Q rel re p =>
  hf.use rel re p fun a s1 ρ1 H1 x e1 r1 v1 p1 => by
    split at p1
    · cases v1
      exact ⟨_, rfl, p1 ρ1 H1 (Ext.refl _ _) r1⟩
    · exact p1.elim
theorem RO.use {ta : TO} {f : MO} {ρ : List Addr} {H : Hp} {st : Sto} {σ : L2.St} {env : AEnv} {β : Type} {R : β → Sto → List Addr → Hp → Prop} {k : Option Int → Sto → Res β} {Q : Option Int → Hp → Prop} (h : RO K w W ta f) (rel : Rel K w ρ H st) (re : Renv K H ρ σ env) (p : Post K w ρ H ((f env st).bind k) R (W · · σ ·))
    (go : ∀ a s1 ρ1 H1, Ext ρ ρ1 H H1 → Rel K w ρ1 H1 s1 → Post K w ρ1 H1 (k a s1) R (W · · σ ·) → Q a H1) : ta σ H Q := by
  refine h ρ H st σ env Q rel re ?_
  cases e : f env st with
  | ok a s1 =>
    rw [e] at p
    exact fun ρ1 H1 e1 r1 => go a s1 ρ1 H1 e1 r1 (Post.ext p e1)
  | ex c d s1 => rw [e] at p; exact p
  | no => rw [e] at p; exact p
abbrev RSl := V → Option Int → Option Int → Hp → VK → Prop
def RSlok (K : PySem.W.Frag) (w : World) (r : RSl) (op : A → Option Int → Option Int → Sto → Res A) : Prop := ∀ ρ H st x a lo hi Q X, Rel K w ρ H st → Rv K H ρ x a → Post K w ρ H (op a lo hi st) (fun a _ ρ' H' => ∀ v, Rv K H' ρ' v a → Q v H') X → r x lo hi H Q
def mSl (op : A → Option Int → Option Int → Sto → Res A) (f : ME) (l h : MO) : ME := fun env st => (f env st).bind fun x s1 => (l env s1).bind fun lo s2 => (h env s2).bind fun hi s3 => op x lo hi s3
theorem re_sl {r : RSl} {op : A → Option Int → Option Int → Sto → Res A} {t : TE} {tl th : TO} {f : ME} {l h : MO} (ho : RSlok K w r op) (hf : RE K w W t f) (hl : RO K w W tl l) (hh : RO K w W th h) : RE K w W (tSl r t tl th) (mSl op f l h) := fun ρ H st σ env Q rel re p =>
  hf.use rel re p fun a s1 ρ1 H1 x e1 r1 v1 p1 => hl.use r1 (re.ext e1) p1 fun lo s2 ρ2 H2 e2 r2 p2 => hh.use r2 (re.ext (e1.trans e2)) p2 fun hi s3 ρ3 H3 e3 r3 p3 => ho ρ3 H3 s3 x a lo hi Q _ r3 (rv_ext (e2.trans e3) v1) p3
def cutA (xs : List A) (lo hi : Option Int) : List A := (xs.drop (HT.sIx xs.length 0 lo)).take (HT.sIx xs.length xs.length hi - HT.sIx xs.length 0 lo)
theorem rvs_cut {ρ : List Addr} {H : Hp} {vs : List V} {xs : List A} (h : Rvs K H ρ vs xs) (lo hi : Option Int) : Rvs K H ρ (cutV vs lo hi) (cutA xs lo hi) := by
  unfold cutV cutA
  rw [h.length]
  exact (h.drop _).take _
theorem cut_whole {xs : List A} {lo hi : Option Int} (h : HT.sIx xs.length 0 lo = 0 ∧ HT.sIx xs.length xs.length hi = xs.length) : cutA xs lo hi = xs := by
  unfold cutA
  rw [h.1, h.2, List.drop_zero, Nat.sub_zero, List.take_length]
/-- a list's, a tuple's, a text's slice -/
def oSl : A → Option Int → Option Int → Sto → Res A := fun a lo hi st => match a with
  | .tup xs => .ok (.tup (cutA xs lo hi)) st
  | .str z => if z.length ≤ sizeLine then .ok (.str (cutS z lo hi)) st else .no
  | a => match getL st a with
    | some xs => newO (.lst (cutA xs lo hi)) st
    | none => .no
def rSlAny (K : PySem.W.Frag) : RSl := fun x lo hi H Q => (rSlL K x lo hi H Q ∨ rSlA K x lo hi H Q) ∨ rSlS x lo hi H Q
theorem sl_any {X : Cx} : SlR X (rSlAny X.K) := SlR.or (SlR.or sl_list sl_tupA) sl_str
theorem rsl_any : RSlok K w (rSlAny K) oSl := fun ρ H st x a lo hi Q X rel ra p => by
  unfold oSl at p
  split at p
  · rename_i xs
    obtain ⟨q, vs, rfl, h1, h2⟩ := getT_sq ra rfl
    refine .inl (.inr ⟨q, vs, rfl, h1, fun hw => ?_, fun _ z nz => post_newT rel (rvs_cut h2 lo hi) p z nz⟩)
    rw [cut_whole (by rw [← h2.length]; exact hw)] at p
    exact p.give rel ra
  · split at p
    · rename_i hl
      cases ra
      exact .inr ⟨_, rfl, hl, p.give rel (.str _)⟩
    · exact p.elim
  · split at p
    · rename_i xs e
      obtain ⟨q, vs, rfl, h1, h2⟩ := getL_sq rel ra e
      exact .inl (.inl ⟨q, vs, rfl, h1, fun z nz => post_newL rel (rvs_cut h2 lo hi) p z nz⟩)
    · exact p.elim
/-! ### built-ins called -/
abbrev RL := List V → Hp → VK → Prop
def RLok (K : PySem.W.Frag) (w : World) (r : RL) (op : List A → Sto → Res A) : Prop := ∀ ρ H st vs as Q X, Rel K w ρ H st → Rvs K H ρ vs as → Post K w ρ H (op as st) (fun a _ ρ' H' => ∀ v, Rv K H' ρ' v a → Q v H') X → r vs H Q
def mCB (op : List A → Sto → Res A) (f : MA) : ME := fun env st => (f env st).bind op
theorem re_cb {r : RL} {op : List A → Sto → Res A} {t : TA} {f : MA} (ho : RLok K w r op) (hf : RA K w W t f) : RE K w W (tCB r t) (mCB op f) := fun ρ H st σ env Q rel re p =>
  hf.use rel re p fun a s1 ρ1 H1 x e1 r1 v1 p1 => ho ρ1 H1 s1 x a Q _ r1 v1 p1
def lOr (r r' : RL) : RL := fun vs H Q => r vs H Q ∨ r' vs H Q
theorem CallR.or {X : Cx} {f : Value} {r r' : RL} (h : CallR X f r) (h' : CallR X f r') : CallR X f (lOr r r') := fun pins s σ H xs us Q I rv z => z.elim (fun z => h pins s σ H xs us Q I rv z) (fun z => h' pins s σ H xs us Q I rv z)
def oLen : List A → Sto → Res A := fun as st => match as with
  | [.str z] => if z.length ≤ sizeLine then .ok (.int z.length) st else .no
  | [.ref n] => match st[n]? with
    | some (.lst xs) => .ok (.int xs.length) st
    | some (.dK kvs) => .ok (.int kvs.length) st
    | _ => .no
  | [a] => match getS st a with
    | some xs => .ok (.int xs.length) st
    | none => .no
  | _ => .no
def rLenAny (K : PySem.W.Frag) : RL := lOr (fun xs H Q => ∃ p ys, xs = [.ref p] ∧ (SqL K H p ys ∨ SqT K H p ys) ∧ Q (.int ys.length) H) (lOr (fun xs H Q => ∃ z, xs = [.str z] ∧ z.length ≤ sizeLine ∧ Q (.int z.length) H) (fun xs H Q => ∃ a kvs, xs = [V.ref a] ∧ H a = some (.dK kvs) ∧ Q (.int kvs.length) H))
theorem call_lenAny {X : Cx} : CallR X (.builtin "len") (rLenAny X.K) := CallR.or call_len_seq (CallR.or call_len_str call_lenD)
theorem rvs1 {ρ : List Addr} {H : Hp} {vs : List V} {a : A} (h : Rvs K H ρ vs [a]) : ∃ v, vs = [v] ∧ Rv K H ρ v a := by
  cases h with
  | cons h hs =>
    cases hs
    exact ⟨_, rfl, h⟩
theorem rvs2 {ρ : List Addr} {H : Hp} {vs : List V} {a b : A} (h : Rvs K H ρ vs [a, b]) : ∃ v u, vs = [v, u] ∧ Rv K H ρ v a ∧ Rv K H ρ u b := by
  cases h with
  | cons h hs =>
    obtain ⟨u, rfl, h2⟩ := rvs1 hs
    exact ⟨_, _, rfl, h, h2⟩
theorem rkv_len {κ : Type} {ρ : List Addr} {H : Hp} : ∀ {kv : List (κ × V)} {kvs : List (κ × A)}, Rkv K H ρ kv kvs → kv.length = kvs.length := fun h => Paired.length h
theorem rl_len : RLok K w (rLenAny K) oLen := fun ρ H st vs as Q X rel rv p => by
  unfold oLen at p
  split at p
  · obtain ⟨v, rfl, h⟩ := rvs1 rv
    cases h
    split at p
    · rename_i hl
      exact .inr (.inl ⟨_, rfl, hl, p.give rel (.int _)⟩)
    · exact p.elim
  · obtain ⟨v, rfl, h⟩ := rvs1 rv
    cases h with
    | ref h =>
      split at p
      · rename_i xs e
        obtain ⟨us, h1, h2⟩ := rel.get h e
        exact .inl ⟨_, us, rfl, .inl (SqL.of h1), p.give rel (by rw [h2.length]; exact .int _)⟩
      · rename_i kvs e
        obtain ⟨kv, h1, h2⟩ := rel.get h e
        exact .inr (.inr ⟨_, kv, rfl, h1, p.give rel (by rw [rkv_len h2]; exact .int _)⟩)
      · exact p.elim
  · split at p
    · rename_i e
      obtain ⟨v, rfl, h⟩ := rvs1 rv
      obtain ⟨q, us, rfl, h1, h2⟩ := getS_sq rel h e
      exact .inl ⟨_, us, rfl, h1, p.give rel (by rw [h2.length]; exact .int _)⟩
    · exact p.elim
  · exact p.elim
def oAbs : List A → Sto → Res A := fun as st => match as with
  | [.int i] => .ok (.int (if i < 0 then -i else i)) st
  | _ => .no
theorem rl_abs : RLok K w (fun xs H Q => ∃ i, xs = [.int i] ∧ Q (.int (if i < 0 then -i else i)) H) oAbs := fun ρ H st vs as Q X rel rv p => by
  unfold oAbs at p
  split at p
  · obtain ⟨v, rfl, h⟩ := rvs1 rv
    cases h
    exact ⟨_, rfl, p.give rel (.int _)⟩
  · exact p.elim
def oMin2 : List A → Sto → Res A := fun as st => match as with
  | [.int i, .int j] => .ok (.int (if j < i then j else i)) st
  | _ => .no
def oMax2 : List A → Sto → Res A := fun as st => match as with
  | [.int i, .int j] => .ok (.int (if j > i then j else i)) st
  | _ => .no
theorem rl_min2 : RLok K w (fun xs H Q => ∃ i j, xs = [.int i, .int j] ∧ Q (.int (if j < i then j else i)) H) oMin2 := fun ρ H st vs as Q X rel rv p => by
  unfold oMin2 at p
  split at p
  · obtain ⟨v, u, rfl, h, h'⟩ := rvs2 rv
    cases h
    cases h'
    exact ⟨_, _, rfl, p.give rel (.int _)⟩
  · exact p.elim
theorem rl_max2 : RLok K w (fun xs H Q => ∃ i j, xs = [.int i, .int j] ∧ Q (.int (if j > i then j else i)) H) oMax2 := fun ρ H st vs as Q X rel rv p => by
  unfold oMax2 at p
  split at p
  · obtain ⟨v, u, rfl, h, h'⟩ := rvs2 rv
    cases h
    cases h'
    exact ⟨_, _, rfl, p.give rel (.int _)⟩
  · exact p.elim
/-- int(x) of a number or truth; of a text -/
def oInt : List A → Sto → Res A := fun as st => match as with
  | [.int i] => .ok (.int i) st
  | [.bl b] => .ok (.int (if b then 1 else 0)) st
  | [.str z] => match PySem.intText? z with
    | some n => if z.length ≤ 640 then .ok (.int n) st else .no
    | none => .no
  | _ => .no
def rIntAny : RL := lOr (fun xs H Q => (∃ i, xs = [.int i] ∧ Q (.int i) H) ∨ ∃ k, xs = [.bl k] ∧ Q (.int (if k then 1 else 0)) H) (fun xs H Q => ∃ a n, xs = [.str a] ∧ PySem.intText? a = some n ∧ a.length ≤ 640 ∧ Q (.int n) H)
theorem call_intAny {X : Cx} : CallR X (.type "int") rIntAny := CallR.or call_int1 call_int_str
theorem rl_int : RLok K w rIntAny oInt := fun ρ H st vs as Q X rel rv p => by
  unfold oInt at p
  split at p
  · obtain ⟨v, rfl, h⟩ := rvs1 rv
    cases h
    exact .inl (.inl ⟨_, rfl, p.give rel (.int _)⟩)
  · obtain ⟨v, rfl, h⟩ := rvs1 rv
    cases h
    exact .inl (.inr ⟨_, rfl, p.give rel (.int _)⟩)
  · obtain ⟨v, rfl, h⟩ := rvs1 rv
    cases h
    split at p
    · rename_i n e
      split at p
      · rename_i hl
        exact .inr ⟨_, n, rfl, e, hl, p.give rel (.int _)⟩
      · exact p.elim
    · exact p.elim
  · exact p.elim
def oStr : List A → Sto → Res A := fun as st => match as with
  | [.int i] => if i.natAbs.log2 < 1920 then .ok (.str (toString i)) st else .no
  | _ => .no
theorem rl_str : RLok K w (fun xs H Q => ∃ i, xs = [.int i] ∧ i.natAbs.log2 < 1920 ∧ Q (.str (toString i)) H) oStr := fun ρ H st vs as Q X rel rv p => by
  unfold oStr at p
  split at p
  · obtain ⟨v, rfl, h⟩ := rvs1 rv
    cases h
    split at p
    · rename_i hl
      exact ⟨_, rfl, hl, p.give rel (.str _)⟩
    · exact p.elim
  · exact p.elim
def oList : List A → Sto → Res A := fun as st => match as with
  | [a] => match getS st a with
    | some xs => newO (.lst xs) st
    | none => .no
  | _ => .no
theorem rl_list : RLok K w (fun xs H Q => ∃ p ys, xs = [.ref p] ∧ (SqL K H p ys ∨ SqT K H p ys) ∧ ∀ l, H l = none → Q (.ref l) (upd H l (.lst ys))) oList := fun ρ H st vs as Q X rel rv p => by
  unfold oList at p
  split at p
  · split at p
    · rename_i xs e
      obtain ⟨v, rfl, h⟩ := rvs1 rv
      obtain ⟨q, us, rfl, h1, h2⟩ := getS_sq rel h e
      exact ⟨_, us, rfl, h1, fun z nz => post_newL rel h2 p z nz⟩
    · exact p.elim
  · exact p.elim
def oTuple : List A → Sto → Res A := fun as st => match as with
  | [a] => match getS st a with
    | some xs => .ok (.tup xs) st
    | none => .no
  | _ => .no
theorem rl_tuple : RLok K w (fun xs H Q => ∃ p ys, xs = [.ref p] ∧ ((SqL K H p ys ∧ ∀ l, H l = none → Q (.ref l) (upd H l (.tup ys))) ∨ (SqT K H p ys ∧ Q (.ref p) H))) oTuple := fun ρ H st vs as Q X rel rv p => by
  unfold oTuple at p
  split at p
  · split at p
    · rename_i xs e
      obtain ⟨v, rfl, h⟩ := rvs1 rv
      obtain ⟨q, us, rfl, h1, h2⟩ := getS_sq rel h e
      rcases h1 with h1 | h1
      · exact ⟨_, us, rfl, .inl ⟨h1, fun z nz => post_newT rel h2 p z nz⟩⟩
      · exact ⟨_, us, rfl, .inr ⟨h1, p.give rel (.tup h1 h2)⟩⟩
    · exact p.elim
  · exact p.elim
/-- isinstance of data -/
def tyA (st : Sto) : A → Option String
  | .non => some "NoneType"
  | .bl _ => some "bool"
  | .int _ => some "int"
  | .str _ => some "str"
  | .tup _ => some "tuple"
  | .lit _ => some "list"
  | .ref n => match st[n]? with
    | some (.lst _) => some "list"
    | _ => none
  | _ => none
theorem tyA_x {ρ : List Addr} {H : Hp} {st : Sto} {v : V} {a : A} {t : String} (rel : Rel K w ρ H st) (h : Rv K H ρ v a) (e : tyA st a = some t) : TyX K H v (.type t) ∧ t ∈ ["NoneType", "bool", "int", "str", "list", "tuple", "dict"] := by
  cases h with
  | non => cases e; exact ⟨.base .non, by decide⟩
  | bl b => cases e; exact ⟨.base (.bl b), by decide⟩
  | int b => cases e; exact ⟨.base (.int b), by decide⟩
  | str b => cases e; exact ⟨.base (.str b), by decide⟩
  | tup h hs =>
    cases e
    rcases h with (h | ⟨o, h⟩) | ⟨o, _, _, h, c, _⟩
    · exact ⟨.base (.tup h), by decide⟩
    · exact ⟨.fTuple h, by decide⟩
    · exact ⟨.kTuple h c, by decide⟩
  | lit h hs =>
    cases e
    rcases lit_sq h with (h | ⟨o, h⟩) | ⟨o, _, _, h, c, _⟩
    · exact ⟨.base (.lst h), by decide⟩
    · exact ⟨.base (.frz h), by decide⟩
    · exact ⟨.kList h c, by decide⟩
  | ref h =>
    simp only [tyA] at e
    split at e
    · rename_i xs e1
      cases e
      obtain ⟨vs, h1, _⟩ := rel.get h e1
      exact ⟨.base (.lst h1), by decide⟩
    · cases e
  | adr a => cases e
  | ty a => cases e
def oIsi : List A → Sto → Res A := fun as st => match as with
  | [a, .ty T] => match tyA st a with
    | some t => if T ∈ ["int", "bool", "str", "tuple", "list"] then .ok (.bl (isTy t T)) st else .no
    | none => .no
  | _ => .no
theorem rl_isi : RLok K w (rIsi K) oIsi := fun ρ H st vs as Q X rel rv p => by
  unfold oIsi at p
  split at p
  · split at p
    · rename_i T t e
      obtain ⟨v, u, rfl, h, h'⟩ := rvs2 rv
      cases h'
      split at p
      · rename_i hT
        obtain ⟨h1, h2⟩ := tyA_x rel h e
        exact ⟨_, _, _, _, _, rfl, .ty _, h1, kit_ty (kit_all _ h2 _ hT), p.give rel (.bl _)⟩
      · exact p.elim
    · exact p.elim
  · exact p.elim
end

/-! ### mirrors: methods of lists, targets, statements, loops -/
section
variable {w : World} {W : WishX}
theorem set_put {ρ : List Addr} {H : Hp} {st : Sto} {n : Nat} {p : Addr} {us : List V} {ys : List A} (rel : Rel K w ρ H st) (h : ρ[n]? = some p) (r : Rvs K H ρ us ys) : Ext ρ ρ H (upd H p (.lst us)) ∧ Rel K w ρ (upd H p (.lst us)) (st.set n (.lst ys)) :=
  rel.put (o := .lst ys) (u := .lst us) h fun H' e' h' => ⟨us, h', rvs_ext e' r⟩
/-- x.m(..) of a list: f tells what it gives and the list behind it -/
def mMeth (op : List A → List A → Option (A × List A)) (f : ME) (g : MA) : ME := fun env st => (f env st).bind fun x s1 => match getM s1 x with
  | none => .no
  | some _ => (g env s1).bind fun as s2 => match getM s2 x with
    | some (n, xs) => match op xs as with
      | some (a, ys) => .ok a (s2.set n (.lst ys))
      | none => .no
    | none => .no
abbrev RM := V → List V → Hp → VK → Prop
/-- .. by values -/
def RMok (K : PySem.W.Frag) (r : RM) (op : List A → List A → Option (A × List A)) : Prop := ∀ ρ H l xs as vs us a ys Q, H l = some (.lst vs) → Rvs K H ρ vs xs → Rvs K H ρ us as → op xs as = some (a, ys) → (∀ v ws, Rv K H ρ v a → Rvs K H ρ ws ys → Q v (upd H l (.lst ws))) → r (.ref l) us H Q
theorem re_meth {r : RM} {op : List A → List A → Option (A × List A)} {to : TE} {t : TA} {f : ME} {g : MA} (ho : RMok K r op) (hf : RE K w W to f) (hg : RA K w W t g) : RE K w W (tBM K "list" r to t) (mMeth op f g) := fun ρ H st σ env Q rel re p =>
  hf.use rel re p fun a s1 ρ1 H1 x e1 r1 v1 p1 => by
    split at p1
    · exact p1.elim
    · rename_i nx em
      obtain ⟨n, xs⟩ := nx
      obtain ⟨l, vs, rfl, hl, h1, h2⟩ := getM_is r1 v1 em
      refine ⟨.inl ⟨rfl, _, SqL.of h1⟩, hg.use r1 (re.ext e1) p1 fun as s2 ρ2 H2 us e2 r2 v2 p2 => ?_⟩
      have v1' := rv_ext e2 v1
      split at p2
      · rename_i m ys em2
        obtain ⟨l', vs2, e3, hl2, h3, h4⟩ := getM_is r2 v1' em2
        cases e3
        split at p2
        · rename_i c zs eo
          refine ho ρ2 H2 l ys as vs2 us c zs Q h3 h4 v2 eo fun v ws hv hws => ?_
          obtain ⟨e4, r4⟩ := set_put r2 hl2 hws
          exact p2.giveAt e4 r4 (rv_ext e4 hv)
        · exact p2.elim
      · exact p2.elim
def mMeth0 (op : List A → List A → Option (A × List A)) (f : ME) : ME := mMeth op f mNil
theorem re_meth0 {r : RM} {op : List A → List A → Option (A × List A)} {to : TE} {f : ME} (ho : RMok K r op) (hf : RE K w W to f) : RE K w W (tBM0 K "list" r to) (mMeth0 op f) := re_meth (t := tNil) ho hf ra_nil
def oAppend : List A → List A → Option (A × List A) := fun xs as => match as with
  | [a] => if xs.length < sizeLine then some (.non, xs ++ [a]) else none
  | _ => none
theorem rm_append : RMok K rAppend oAppend := fun ρ H l xs as vs us a ys Q h1 h2 h3 e q => by
  unfold oAppend at e
  split at e
  · split at e
    · rename_i hl
      cases e
      obtain ⟨u, rfl, h4⟩ := rvs1 h3
      exact ⟨l, vs, u, rfl, rfl, h1, by rw [h2.length]; exact hl, q _ _ .non (h2.append (.cons h4 .nil))⟩
    · cases e
  · cases e
def oPop : List A → List A → Option (A × List A) := fun xs as => match as with
  | [] => (xs[xs.length - 1]?).map fun a => (a, xs.dropLast)
  | _ => none
theorem rvs_dropLast {ρ : List Addr} {H : Hp} {vs : List V} {xs : List A} (h : Rvs K H ρ vs xs) : Rvs K H ρ vs.dropLast xs.dropLast := by
  rw [List.dropLast_eq_take, List.dropLast_eq_take, h.length]
  exact h.take _
theorem rm_pop : RMok K rPop oPop := fun ρ H l xs as vs us a ys Q h1 h2 h3 e q => by
  unfold oPop at e
  split at e
  · obtain ⟨b, e1, e2⟩ := Option.map_eq_some_iff.mp e
    cases e2
    cases h3
    obtain ⟨v, e3, e4⟩ := h2.get e1
    exact ⟨l, vs, v, rfl, rfl, h1, by rw [h2.length]; exact e3, q _ _ e4 (rvs_dropLast h2)⟩
  · cases e
def oPopAt : List A → List A → Option (A × List A) := fun xs as => match as with
  | [.int i] => if -(2 ^ 63) ≤ i ∧ i < 2 ^ 63 then match seqIndex? i xs.length with
    | some k => (xs[k]?).map fun a => (a, xs.eraseIdx k)
    | none => none else none
  | _ => none
theorem rm_popAt : RMok K rPopAt oPopAt := fun ρ H l xs as vs us a ys Q h1 h2 h3 e q => by
  unfold oPopAt at e
  split at e
  · split at e
    · rename_i hi
      split at e
      · rename_i k ek
        obtain ⟨b, e1, e2⟩ := Option.map_eq_some_iff.mp e
        cases e2
        obtain ⟨u, rfl, h4⟩ := rvs1 h3
        cases h4
        obtain ⟨v, e3, e4⟩ := h2.get e1
        exact ⟨l, vs, _, k, v, rfl, rfl, h1, hi.1, hi.2, by rw [h2.length]; exact ek, e3, q _ _ e4 (h2.erase k)⟩
      · cases e
    · cases e
  · cases e
/-! ### targets that are names -/
abbrev MG := A → AEnv → Option AEnv
abbrev MGs := List A → AEnv → Option AEnv
def RGn (K : PySem.W.Frag) (g : TG) (m : MG) (vs : List Nat) : Prop := ∀ H ρ σ env v a k, Renv K H ρ σ env → Rv K H ρ v a → (match m a env with
  | some env' => ∀ σ', Renv K H ρ σ' env' → L2.wipe σ' vs = L2.wipe σ vs → k σ' H
  | none => False) → g v σ H k
def RGns (K : PySem.W.Frag) (g : TGs) (m : MGs) (vs : List Nat) : Prop := ∀ H ρ σ env us as k, Renv K H ρ σ env → Rvs K H ρ us as → (match m as env with
  | some env' => ∀ σ', Renv K H ρ σ' env' → L2.wipe σ' vs = L2.wipe σ vs → k σ' H
  | none => False) → g us σ H k
def mgName (i : Nat) : MG := fun a env => some (env.set i (some a))
def mgNil : MGs := fun as env => match as with
  | [] => some env
  | _ => none
def mgCons (f : MG) (g : MGs) : MGs := fun as env => match as with
  | a :: as => match f a env with
    | some e => g as e
    | none => none
  | [] => none
def mgTup (g : MGs) : MG := fun a env => match a with
  | .tup xs => g xs env
  | _ => none
theorem wipe_set {σ : L2.St} {i : Nat} {x : Option V} : ∀ {vs : List Nat}, i ∈ vs → L2.wipe (σ.set i x) vs = L2.wipe σ vs
  | v :: vs, h => by
    show (L2.wipe (σ.set i x) vs).set v none = (L2.wipe σ vs).set v none
    by_cases hv : i ∈ vs
    · rw [wipe_set hv]
    · have e : i = v := (List.mem_cons.mp h).resolve_right hv
      subst e
      have : ∀ us : List Nat, i ∉ us → L2.wipe (σ.set i x) us = (L2.wipe σ us).set i x := fun us => by
        induction us with
        | nil => intro _; rfl
        | cons u us ih =>
          intro hn
          rw [List.mem_cons, not_or] at hn
          show (L2.wipe (σ.set i x) us).set u none = ((L2.wipe σ us).set u none).set i x
          rw [ih hn.2, List.set_comm _ _ (fun z => hn.1 z.symm)]
      rw [this vs hv, List.set_set]
theorem rg_name {i : Nat} {vs : List Nat} (hi : i ∈ vs) : RGn K (gName i) (mgName i) vs := fun H ρ σ env v a k re hv h => h _ (re.set i hv) (wipe_set hi)
theorem rgs_nil {vs : List Nat} : RGns K gNil mgNil vs := fun H ρ σ env us as k re hv h => by
  cases hv with
  | nil => exact ⟨rfl, h _ re rfl⟩
  | cons _ _ => exact h.elim
theorem rgs_cons {g : TG} {gs : TGs} {m : MG} {ms : MGs} {vs : List Nat} (hg : RGn K g m vs) (hgs : RGns K gs ms vs) : RGns K (gCons g gs) (mgCons m ms) vs := fun H ρ σ env us as k re hv h => by
  cases hv with
  | nil => exact h.elim
  | cons h1 h2 =>
    rename_i v a us as
    refine ⟨_, _, rfl, hg H ρ σ env v a _ re h1 ?_⟩
    have h' : (match (match m a env with
      | some e => ms as e
      | none => none) with
      | some env' => ∀ σ', Renv K H ρ σ' env' → L2.wipe σ' vs = L2.wipe σ vs → k σ' H
      | none => False) := h
    cases em : m a env with
    | none => rw [em] at h'; exact h'
    | some e1 =>
      rw [em] at h'
      intro σ1 re1 w1
      refine hgs H ρ σ1 e1 us as k re1 h2 ?_
      simp only at h'
      cases em2 : ms as e1 with
      | none => rw [em2] at h'; exact h'
      | some e2 =>
        rw [em2] at h'
        exact fun σ2 re2 w2 => h' σ2 re2 (w2.trans w1)
theorem RGns.len {gs : TGs} {ms : MGs} {vs : List Nat} : True := trivial
theorem rg_tup {gs : TGs} {ms : MGs} {vs : List Nat} {n : Nat} (hl : ∀ as env e, ms as env = some e → as.length = n) (hg : RGns K gs ms vs) : RGn K (gTup K n gs) (mgTup ms) vs := fun H ρ σ env v a k re hv h => by
  unfold mgTup at h
  cases hv with
  | tup h1 h2 =>
    refine ⟨_, _, rfl, h1, ?_, hg H ρ σ env _ _ k re h2 h⟩
    rw [h2.length]
    simp only at h
    rename_i p us xs
    cases em : ms xs env with
    | none => rw [em] at h; exact h.elim
    | some e => exact hl _ _ _ em
  | _ => exact h.elim
theorem mgs_len0 : ∀ as env e, mgNil as env = some e → as.length = 0 := fun as env e h => by
  cases as with
  | nil => rfl
  | cons _ _ => cases h
theorem mgs_lenS {m : MG} {ms : MGs} {n : Nat} (hn : ∀ as env e, ms as env = some e → as.length = n) : ∀ as env e, mgCons m ms as env = some e → as.length = n + 1 := fun as env e h => by
  cases as with
  | nil => cases h
  | cons a as =>
    unfold mgCons at h
    simp only at h
    split at h
    · rw [List.length_cons, hn _ _ _ h]
    · cases h
/-! ### statements -/
abbrev MS := AEnv → Sto → RF
def PostS (K : PySem.W.Frag) (w : World) (ρ : List Addr) (H : Hp) (r : RF) (D : Ends) (W : WishX) : Prop := match r with
  | .fl (.nx e) st => ∀ ρ' H' σ', Ext ρ ρ' H H' → Rel K w ρ' H' st → Renv K H' ρ' σ' e → D.nx σ' H'
  | .fl (.bk e) st => ∀ ρ' H' σ', Ext ρ ρ' H H' → Rel K w ρ' H' st → Renv K H' ρ' σ' e → D.bk σ' H'
  | .fl (.ct e) st => ∀ ρ' H' σ', Ext ρ ρ' H H' → Rel K w ρ' H' st → Renv K H' ρ' σ' e → D.ct σ' H'
  | .fl (.rt a) st => ∀ ρ' H' v, Ext ρ ρ' H H' → Rel K w ρ' H' st → Rv K H' ρ' v a → D.rt v H'
  | .ex c d e st => ∀ ρ' H' σ' dx, Ext ρ ρ' H H' → Rel K w ρ' H' st → Renv K H' ρ' σ' e → RD ρ' d dx → W (.ref c) dx σ' H'
  | .no => False
theorem PostS.ext {ρ ρ1 : List Addr} {H H1 : Hp} {r : RF} {D : Ends} (p : PostS K w ρ H r D W) (e : Ext ρ ρ1 H H1) : PostS K w ρ1 H1 r D W := by
  cases r with
  | fl f st =>
    cases f with
    | nx _ => exact fun ρ' H' σ' e' => p ρ' H' σ' (e.trans e')
    | bk _ => exact fun ρ' H' σ' e' => p ρ' H' σ' (e.trans e')
    | ct _ => exact fun ρ' H' σ' e' => p ρ' H' σ' (e.trans e')
    | rt _ => exact fun ρ' H' σ' e' => p ρ' H' σ' (e.trans e')
  | ex c d en st => exact fun ρ' H' σ' dx e' => p ρ' H' σ' dx (e.trans e')
  | no => exact p
def RS (K : PySem.W.Frag) (w : World) (W : WishX) (t : TS) (f : MS) : Prop := ∀ ρ H st σ env D, Rel K w ρ H st → Renv K H ρ σ env → PostS K w ρ H (f env st) D W → t D σ H
theorem RE.useS {ta : TE} {f : ME} {k : A → Sto → RF} {ρ : List Addr} {H : Hp} {st : Sto} {σ : L2.St} {env : AEnv} {D : Ends} {Q : VK} (h : RE K w W ta f) (rel : Rel K w ρ H st) (re : Renv K H ρ σ env) (p : PostS K w ρ H ((f env st).thenS env k) D W)
    (go : ∀ a s1 ρ1 H1 v, Ext ρ ρ1 H H1 → Rel K w ρ1 H1 s1 → Rv K H1 ρ1 v a → PostS K w ρ1 H1 (k a s1) D W → Q v H1) : ta σ H Q := by
  refine h ρ H st σ env Q rel re ?_
  cases e : f env st with
  | ok a s1 =>
    rw [e] at p
    exact fun ρ1 H1 e1 r1 v hv => go a s1 ρ1 H1 v e1 r1 hv (PostS.ext p e1)
  | ex c d s1 =>
    rw [e] at p
    exact fun ρ1 H1 dx e1 r1 hd => p ρ1 H1 σ dx e1 r1 (re.ext e1) hd
  | no => rw [e] at p; exact p
theorem RT.useS {ta : TT} {f : MT} {k : Bool → Sto → RF} {ρ : List Addr} {H : Hp} {st : Sto} {σ : L2.St} {env : AEnv} {D : Ends} {Q : Bool → Hp → Prop} (h : RT K w W ta f) (rel : Rel K w ρ H st) (re : Renv K H ρ σ env) (p : PostS K w ρ H ((f env st).thenS env k) D W)
    (go : ∀ a s1 ρ1 H1, Ext ρ ρ1 H H1 → Rel K w ρ1 H1 s1 → PostS K w ρ1 H1 (k a s1) D W → Q a H1) : ta σ H Q := by
  refine h ρ H st σ env Q rel re ?_
  cases e : f env st with
  | ok a s1 =>
    rw [e] at p
    exact fun ρ1 H1 e1 r1 => go a s1 ρ1 H1 e1 r1 (PostS.ext p e1)
  | ex c d s1 =>
    rw [e] at p
    exact fun ρ1 H1 dx e1 r1 hd => p ρ1 H1 σ dx e1 r1 (re.ext e1) hd
  | no => rw [e] at p; exact p
def sNext : MS := fun env st => .fl (.nx env) st
def sSeq (f g : MS) : MS := fun env st => (f env st).next g
def sIf (c : MT) (f g : MS) : MS := fun env st => (c env st).thenS env fun b s => if b = true then f env s else g env s
def sRet (f : ME) : MS := fun env st => (f env st).thenS env fun a s => .fl (.rt a) s
def sRetN : MS := fun _ st => .fl (.rt .non) st
def sDrop (f : ME) : MS := fun env st => (f env st).thenS env fun _ s => .fl (.nx env) s
def sBreak : MS := fun env st => .fl (.bk env) st
def sCont : MS := fun env st => .fl (.ct env) st
def sAsg (f : ME) (g : MG) : MS := fun env st => (f env st).thenS env fun a s => match g a env with
  | some e => .fl (.nx e) s
  | none => .no
theorem rs_next : RS K w W tNext sNext := fun ρ H st σ env D rel re p => p ρ H σ (Ext.refl _ _) rel re
theorem rs_break : RS K w W tBreak sBreak := fun ρ H st σ env D rel re p => p ρ H σ (Ext.refl _ _) rel re
theorem rs_cont : RS K w W tCont sCont := fun ρ H st σ env D rel re p => p ρ H σ (Ext.refl _ _) rel re
theorem rs_seq {t u : TS} {f g : MS} (hf : RS K w W t f) (hg : RS K w W u g) : RS K w W (tSeq t u) (sSeq f g) := fun ρ H st σ env D rel re p => by
  refine hf ρ H st σ env _ rel re ?_
  have p : PostS K w ρ H ((f env st).next g) D W := p
  cases e : f env st with
  | fl fl s1 =>
    rw [e] at p
    cases fl with
    | nx e1 => exact fun ρ1 H1 σ1 x1 r1 re1 => hg ρ1 H1 s1 σ1 e1 D r1 re1 (PostS.ext p x1)
    | bk e1 => exact p
    | ct e1 => exact p
    | rt e1 => exact p
  | ex c d e1 s1 => rw [e] at p; exact p
  | no => rw [e] at p; exact p
theorem rs_if {c : TT} {t u : TS} {m : MT} {f g : MS} (hc : RT K w W c m) (hf : RS K w W t f) (hg : RS K w W u g) : RS K w W (tIfS c t u) (sIf m f g) := fun ρ H st σ env D rel re p =>
  hc.useS rel re p fun b s1 ρ1 H1 e1 r1 p1 => by
    cases b with
    | true => exact iteT (hf ρ1 H1 s1 σ env D r1 (re.ext e1) p1)
    | false => exact iteF (hg ρ1 H1 s1 σ env D r1 (re.ext e1) p1)
theorem rs_ret {t : TE} {f : ME} (hf : RE K w W t f) : RS K w W (tRet t) (sRet f) := fun ρ H st σ env D rel re p =>
  hf.useS rel re p fun a s1 ρ1 H1 x e1 r1 v1 p1 => p1 ρ1 H1 x (Ext.refl _ _) r1 v1
theorem rs_retN : RS K w W tRetN sRetN := fun ρ H st σ env D rel re p => p ρ H .non (Ext.refl _ _) rel .non
theorem rs_drop {t : TE} {f : ME} (hf : RE K w W t f) : RS K w W (tDrop t) (sDrop f) := fun ρ H st σ env D rel re p =>
  hf.useS rel re p fun a s1 ρ1 H1 x e1 r1 v1 p1 => p1 ρ1 H1 σ (Ext.refl _ _) r1 (re.ext e1)
theorem rs_asg {t : TE} {g : TG} {f : ME} {m : MG} {vs : List Nat} (hf : RE K w W t f) (hg : RGn K g m vs) : RS K w W (tAsg t g) (sAsg f m) := fun ρ H st σ env D rel re p =>
  hf.useS rel re p fun a s1 ρ1 H1 x e1 r1 v1 p1 => by
    refine hg H1 ρ1 σ env x a _ (re.ext e1) v1 ?_
    cases em : m a env with
    | none => rw [em] at p1; exact p1
    | some e2 =>
      rw [em] at p1
      exact fun σ' re' _ => p1 ρ1 H1 σ' (Ext.refl _ _) r1 re'
/-- xs[i] = e -/
def sPutL (f o i : ME) : MS := fun env st => (f env st).thenS env fun a s1 => (o env s1).thenS env fun x s2 => (i env s2).thenS env fun y s3 => match y, getM s3 x with
  | .int k, some (n, xs) => match ixN xs.length k with
    | some j => .fl (.nx env) (s3.set n (.lst (xs.set j a)))
    | none => .no
  | _, _ => .no
/-! ### what is walked -/
structure RIt (K : PySem.W.Frag) (w : World) (ρ : List Addr) (H : Hp) (J : It) (xs : List A) (ok : Sto → Prop) : Prop where
  go : ∀ (i : Nat) (a : A) ρ' H' st', Ext ρ ρ' H H' → Rel K w ρ' H' st' → ok st' → xs[i]? = some a → J.go i H' ∧ ∀ x H2, J.yld i H' x H2 → Same H' H2 ∧ Rv K H2 ρ' x a
  stop : ∀ ρ' H' st', Ext ρ ρ' H H' → Rel K w ρ' H' st' → ok st' → J.stop xs.length H'
theorem RIt.ext {ρ ρ1 : List Addr} {H H1 : Hp} {J : It} {xs : List A} {ok : Sto → Prop} (r : RIt K w ρ H J xs ok) (e : Ext ρ ρ1 H H1) : RIt K w ρ1 H1 J xs ok :=
  ⟨fun i a ρ' H' st' e' => r.go i a ρ' H' st' (e.trans e'), fun ρ' H' st' e' => r.stop ρ' H' st' (e.trans e')⟩
abbrev MI := AEnv → Sto → Res (List A × (Sto → Prop))
def RI (K : PySem.W.Frag) (w : World) (W : WishX) (wi : TI) (mi : MI) : Prop := ∀ ρ H st σ env R, Rel K w ρ H st → Renv K H ρ σ env → Post K w ρ H (mi env st) (fun xo _ ρ' H' => ∀ J, RIt K w ρ' H' J xo.1 xo.2 → R J H') (W · · σ ·) → wi σ H R
def miL (f : ME) : MI := fun env st => (f env st).bind fun a s => match getL s a with
  | some xs => .ok (xs, fun s' => getL s' a = some xs) s
  | none => .no
theorem ri_list {t : TE} {f : ME} (hf : RE K w W t f) : RI K w W (iList K t) (miL f) := fun ρ H st σ env R rel re p =>
  hf.use rel re p fun a s1 ρ1 H1 x e1 r1 v1 p1 => by
    split at p1
    · rename_i xs e
      obtain ⟨q, vs, rfl, h1, h2⟩ := getL_sq r1 v1 e
      refine ⟨q, rfl, ⟨_, h1⟩, p1 ρ1 H1 (Ext.refl _ _) r1 _ ⟨fun i b ρ' H' st' e' r' ok eb => ?_, fun ρ' H' st' e' r' ok => ?_⟩⟩
      · obtain ⟨q', vs', ee, h3, h4⟩ := getL_sq r' (rv_ext e' v1) ok
        cases ee
        obtain ⟨v, e5, e6⟩ := h4.get eb
        refine ⟨(walk_list (K := K) (a := q) (xs := vs')).goes i H' (by rw [h4.length]; exact (List.getElem?_eq_some_iff.mp eb).1) h3, fun x H2 y => ?_⟩
        obtain ⟨rfl, hx⟩ := (walk_list (K := K) (a := q) (xs := vs')).yields i H' x H2 (by rw [h4.length]; exact (List.getElem?_eq_some_iff.mp eb).1) h3 y
        rw [e5] at hx
        cases hx
        exact ⟨Same.refl _, e6⟩
      · obtain ⟨q', vs', ee, h3, h4⟩ := getL_sq r' (rv_ext e' v1) ok
        cases ee
        have := (walk_list (K := K) (a := q) (xs := vs')).stops H' h3
        rw [h4.length] at this
        exact this
    · exact p1.elim
def miT (f : ME) : MI := fun env st => (f env st).bind fun a s => match a with
  | .tup xs => .ok (xs, fun _ => True) s
  | _ => .no
theorem ri_tup {t : TE} {f : ME} (hf : RE K w W t f) : RI K w W (iTup K t) (miT f) := fun ρ H st σ env R rel re p =>
  hf.use rel re p fun a s1 ρ1 H1 x e1 r1 v1 p1 => by
    split at p1
    · rename_i xs
      obtain ⟨q, vs, rfl, h1, h2⟩ := getT_sq v1 rfl
      refine ⟨q, rfl, ⟨_, h1⟩, p1 ρ1 H1 (Ext.refl _ _) r1 _ ⟨fun i b ρ' H' st' e' r' _ eb => ?_, fun ρ' H' st' e' r' _ => ?_⟩⟩
      · have h3 := sqT_kt e'.kt h1
        obtain ⟨v, e5, e6⟩ := (rvs_ext e' h2).get eb
        have hi : i < vs.length := by rw [h2.length]; exact (List.getElem?_eq_some_iff.mp eb).1
        refine ⟨(walk_tup (K := K) (a := q) (xs := vs)).goes i H' hi h3, fun x H2 y => ?_⟩
        obtain ⟨rfl, hx⟩ := (walk_tup (K := K) (a := q) (xs := vs)).yields i H' x H2 hi h3 y
        rw [e5] at hx
        cases hx
        exact ⟨Same.refl _, e6⟩
      · have := (walk_tup (K := K) (a := q) (xs := vs)).stops H' (sqT_kt e'.kt h1)
        rw [h2.length] at this
        exact this
    · exact p1.elim
def rngA (lo : Int) (n : Nat) : List A := (List.range n).map fun i : Nat => A.int (lo + (i : Int))
theorem rit_range {ρ : List Addr} {H : Hp} {lo : Int} {n : Nat} : RIt K w ρ H (Itr lo n) (rngA lo n) fun _ => True := by
  refine ⟨fun i a ρ' H' st' e' r' _ ea => ?_, fun ρ' H' st' e' r' _ => ?_⟩
  · unfold rngA at ea
    rw [List.getElem?_map] at ea
    obtain ⟨j, ej, rfl⟩ := Option.map_eq_some_iff.mp ea
    obtain ⟨hj, rfl⟩ := List.getElem?_eq_some_iff.mp ej
    rw [List.length_range] at hj
    rw [List.getElem_range]
    refine ⟨hj, fun x H2 y => ?_⟩
    obtain ⟨rfl, rfl⟩ := y
    exact ⟨Same.refl _, .int _⟩
  · show n ≤ (rngA lo n).length
    unfold rngA
    rw [List.length_map, List.length_range]
    exact Nat.le_refl _
def miR1 (f : MA) : MI := fun env st => (f env st).bind fun as s => match as with
  | [.int j] => if -(2 ^ 62) ≤ j ∧ j < 2 ^ 62 then .ok (rngA 0 j.toNat, fun _ => True) s else .no
  | _ => .no
def miR2 (f : MA) : MI := fun env st => (f env st).bind fun as s => match as with
  | [.int i, .int j] => if -(2 ^ 62) ≤ i ∧ i < 2 ^ 62 ∧ -(2 ^ 62) ≤ j ∧ j < 2 ^ 62 then .ok (rngA i (j - i).toNat, fun _ => True) s else .no
  | _ => .no
theorem ri_range1 {t : TA} {f : MA} (hf : RA K w W t f) : RI K w W (iRng1 t) (miR1 f) := fun ρ H st σ env R rel re p =>
  hf.use rel re p fun a s1 ρ1 H1 x e1 r1 v1 p1 => by
    split at p1
    · split at p1
      · rename_i hj
        obtain ⟨v, rfl, h⟩ := rvs1 v1
        cases h
        exact ⟨_, rfl, hj.1, hj.2, p1 ρ1 H1 (Ext.refl _ _) r1 _ rit_range⟩
      · exact p1.elim
    · exact p1.elim
theorem ri_range2 {t : TA} {f : MA} (hf : RA K w W t f) : RI K w W (iRng2 t) (miR2 f) := fun ρ H st σ env R rel re p =>
  hf.use rel re p fun a s1 ρ1 H1 x e1 r1 v1 p1 => by
    split at p1
    · split at p1
      · rename_i hj
        obtain ⟨v, u, rfl, h, h'⟩ := rvs2 v1
        cases h
        cases h'
        exact ⟨_, _, rfl, hj, p1 ρ1 H1 (Ext.refl _ _) r1 _ rit_range⟩
      · exact p1.elim
    · exact p1.elim
end

/-! ### mirrors: loops, comprehensions, calls -/
section
variable {w : World} {W : WishX}
open Classical in
noncomputable def forL (ok : Sto → Prop) (g : MG) (b : MS) : List A → MS
  | [], env, st => if ok st then .fl (.nx env) st else .no
  | x :: xs, env, st => if ok st then (match g x env with
    | some e1 => match b e1 st with
      | .fl (.nx e2) s2 => forL ok g b xs e2 s2
      | .fl (.ct e2) s2 => forL ok g b xs e2 s2
      | .fl (.bk e2) s2 => .fl (.nx e2) s2
      | .fl (.rt a) s2 => .fl (.rt a) s2
      | .ex c d e2 s2 => .ex c d e2 s2
      | .no => .no
    | none => .no) else .no
noncomputable def sFor (mi : MI) (g : MG) (b : MS) : MS := fun env st => (mi env st).thenS env fun xo s => forL xo.2 g b xo.1 env s
theorem rs_for {wi : TI} {g : TG} {tb : TS} {mi : MI} {m : MG} {b : MS} {vs : List Nat} (hi : RI K w W wi mi) (hg : RGn K g m vs) (hb : RS K w W tb b) : RS K w W (tFor wi g tb) (sFor mi m b) := fun ρ H st σ env D rel re p => by
  have p : PostS K w ρ H ((mi env st).thenS env fun xo s => forL xo.2 m b xo.1 env s) D W := p
  refine hi ρ H st σ env _ rel re ?_
  cases e : mi env st with
  | no => rw [e] at p; exact p
  | ex c d s1 =>
    rw [e] at p
    exact fun ρ1 H1 dx e1 r1 hd => p ρ1 H1 σ dx e1 r1 (re.ext e1) hd
  | ok xo s1 =>
    rw [e] at p
    obtain ⟨xs, ok⟩ := xo
    intro ρ1 H1 e1 r1 J hJ
    have p1 : PostS K w ρ1 H1 (forL ok m b xs env s1) D W := PostS.ext p e1
    refine ⟨fun i n σ H2 => n = xs.length - i ∧ i ≤ xs.length ∧ ∃ ρ2 s2 env2, Ext ρ1 ρ2 H1 H2 ∧ Rel K w ρ2 H2 s2 ∧ Renv K H2 ρ2 σ env2 ∧ PostS K w ρ2 H2 (forL ok m b (xs.drop i) env2 s2) D W, ⟨_, rfl, Nat.zero_le _, ρ1, s1, env, Ext.refl _ _, r1, re.ext e1, by rw [List.drop_zero]; exact p1⟩, ?_⟩
    rintro i n σ2 H2 ⟨rfl, hi2, ρ2, s2, env2, e2, r2, re2, p2⟩
    by_cases lt : i < xs.length
    · have ea : xs[i]? = some xs[i] := List.getElem?_eq_getElem lt
      rw [List.drop_eq_getElem_cons lt] at p2
      unfold forL at p2
      split at p2
      · rename_i hok
        obtain ⟨hgo, hy⟩ := hJ.go i _ ρ2 H2 s2 e2 r2 hok ea
        refine .inr ⟨hgo, fun σ' H' => ∃ ρ3 s3 env3, Ext ρ1 ρ3 H1 H' ∧ Rel K w ρ3 H' s3 ∧ Renv K H' ρ3 σ' env3 ∧ PostS K w ρ3 H' (forL ok m b (xs.drop (i + 1)) env3 s3) D W, fun σ' H' hN => ⟨xs.length - (i + 1), by omega, rfl, lt, hN⟩, fun x H' yl => ?_⟩
        obtain ⟨sm, hx⟩ := hy x H' yl
        have e3 : Ext ρ2 ρ2 H2 H' := Ext.same sm
        have r3 := r2.same sm
        refine hg H' ρ2 σ2 env2 x _ _ (re2.ext e3) hx ?_
        cases em : m xs[i] env2 with
        | none => rw [em] at p2; exact p2
        | some env3 =>
          rw [em] at p2
          intro σ3 re3 _
          refine hb ρ2 H' s2 σ3 env3 _ r3 re3 ?_
          simp only at p2
          cases eb : b env3 s2 with
          | no => rw [eb] at p2; exact p2
          | ex c d env4 s4 =>
            rw [eb] at p2
            exact fun ρ4 H4 σ4 dx e4 r4 re4 hd => p2 ρ4 H4 σ4 dx (e3.trans e4) r4 re4 hd
          | fl f s4 =>
            rw [eb] at p2
            cases f with
            | nx env4 => exact fun ρ4 H4 σ4 e4 r4 re4 => ⟨ρ4, s4, env4, e2.trans (e3.trans e4), r4, re4, PostS.ext p2 (e3.trans e4)⟩
            | ct env4 => exact fun ρ4 H4 σ4 e4 r4 re4 => ⟨ρ4, s4, env4, e2.trans (e3.trans e4), r4, re4, PostS.ext p2 (e3.trans e4)⟩
            | bk env4 => exact fun ρ4 H4 σ4 e4 r4 re4 => p2 ρ4 H4 σ4 (e3.trans e4) r4 re4
            | rt a => exact fun ρ4 H4 v e4 r4 hv => p2 ρ4 H4 v (e3.trans e4) r4 hv
      · exact p2.elim
    · obtain rfl : i = xs.length := by omega
      rw [List.drop_length] at p2
      unfold forL at p2
      split at p2
      · rename_i hok
        exact .inl ⟨hJ.stop ρ2 H2 s2 e2 r2 hok, p2 ρ2 H2 σ2 (Ext.refl _ _) r2 re2⟩
      · exact p2.elim
/-- while, as often as there is fuel -/
def whileF (c : MT) (b : MS) : Nat → MS
  | 0, _, _ => .no
  | n + 1, env, st => (c env st).thenS env fun k s => if k = true then (match b env s with
    | .fl (.nx e2) s2 => whileF c b n e2 s2
    | .fl (.ct e2) s2 => whileF c b n e2 s2
    | .fl (.bk e2) s2 => .fl (.nx e2) s2
    | .fl (.rt a) s2 => .fl (.rt a) s2
    | .ex c d e2 s2 => .ex c d e2 s2
    | .no => .no) else .fl (.nx env) s
theorem rs_while {c : TT} {tb : TS} {m : MT} {b : MS} {n : Nat} (hc : RT K w W c m) (hb : RS K w W tb b) : RS K w W (tWhile c tb) (whileF m b n) := fun ρ H st σ env D rel re p => by
  refine ⟨fun n σ H => ∃ ρ st env, Rel K w ρ H st ∧ Renv K H ρ σ env ∧ PostS K w ρ H (whileF m b n env st) D W, ⟨n, ρ, st, env, rel, re, p⟩, ?_⟩
  rintro n σ2 H2 ⟨ρ2, s2, env2, r2, re2, p2⟩
  cases n with
  | zero => exact p2.elim
  | succ n =>
    refine hc.useS r2 re2 p2 fun k s3 ρ3 H3 e3 r3 p3 => ?_
    cases k with
    | false => exact iteF (p3 ρ3 H3 σ2 (Ext.refl _ _) r3 (re2.ext e3))
    | true =>
      refine iteT ⟨fun σ' H' => ∃ ρ st env, Rel K w ρ H' st ∧ Renv K H' ρ σ' env ∧ PostS K w ρ H' (whileF m b n env st) D W, fun σ' H' h => ⟨n, Nat.lt_succ_self n, h⟩, ?_⟩
      refine hb ρ3 H3 s3 σ2 env2 _ r3 (re2.ext e3) ?_
      have p3 : PostS K w ρ3 H3 (match b env2 s3 with
        | .fl (.nx e2) s2 => whileF m b n e2 s2
        | .fl (.ct e2) s2 => whileF m b n e2 s2
        | .fl (.bk e2) s2 => .fl (.nx e2) s2
        | .fl (.rt a) s2 => .fl (.rt a) s2
        | .ex c d e2 s2 => .ex c d e2 s2
        | .no => .no) D W := p3
      cases eb : b env2 s3 with
      | no => rw [eb] at p3; exact p3
      | ex c d env4 s4 => rw [eb] at p3; exact p3
      | fl f s4 =>
        rw [eb] at p3
        cases f with
        | nx env4 => exact fun ρ4 H4 σ4 e4 r4 re4 => ⟨ρ4, s4, env4, r4, re4, PostS.ext p3 e4⟩
        | ct env4 => exact fun ρ4 H4 σ4 e4 r4 re4 => ⟨ρ4, s4, env4, r4, re4, PostS.ext p3 e4⟩
        | bk env4 => exact p3
        | rt a => exact p3
/-! ### comprehensions -/
def noX {α : Type} (r : Res α) : Res α := match r with
  | .ex _ _ _ => .no
  | r => r
abbrev WF : WishX := fun _ _ _ _ => False
open Classical in
noncomputable def lcL (n : Nat) (ok : Sto → Prop) (g : MG) (tt : MT) (te : ME) (env : AEnv) : List A → Sto → Res A
  | [], st => if ok st then .ok (.ref n) st else .no
  | x :: xs, st => if ok st then (match g x env with
    | some e1 => (noX (tt e1 st)).bind fun k s1 => if k = true then (noX (te e1 s1)).bind fun y s2 => (match s2[n]? with
      | some (.lst acc) => if acc.length < sizeLine then lcL n ok g tt te env xs (s2.set n (.lst (acc ++ [y]))) else .no
      | _ => .no) else lcL n ok g tt te env xs s1
    | none => .no) else .no
noncomputable def mLc (mi : MI) (g : MG) (tt : MT) (te : ME) (vs : List Nat) : ME := fun env st => (mi env st).bind fun xo s => lcL s.length xo.2 g tt te (wipeA env vs) xo.1 (s ++ [.lst []])
theorem noX_use {α : Type} {ρ : List Addr} {H : Hp} {r : Res α} {β : Type} {k : α → Sto → Res β} {R : β → Sto → List Addr → Hp → Prop} {X : Value → Option Addr → Hp → Prop} {S : α → Sto → List Addr → Hp → Prop} (p : Post K w ρ H ((noX r).bind k) R X)
    (go : ∀ a s1 ρ1 H1, Ext ρ ρ1 H H1 → Rel K w ρ1 H1 s1 → Post K w ρ1 H1 (k a s1) R X → S a s1 ρ1 H1) : Post K w ρ H r S (fun _ _ _ => False) := by
  cases r with
  | ok a s => exact fun ρ1 H1 e1 r1 => go a s ρ1 H1 e1 r1 (Post.ext p e1)
  | ex c d s => exact p.elim
  | no => exact p
theorem re_lc {wi : TI} {g : TG} {tt : TT} {te : TE} {mi : MI} {m : MG} {ft : MT} {fe : ME} {vs : List Nat} (hi : RI K w W wi mi) (hg : RGn K g m vs) (ht : RT K w WF tt ft) (he : RE K w WF te fe) : RE K w W (tLc wi g tt te vs) (mLc mi m ft fe vs) := fun ρ H st σ env Q rel re p => by
  have p : Post K w ρ H ((mi env st).bind fun xo s => lcL s.length xo.2 m ft fe (wipeA env vs) xo.1 (s ++ [.lst []])) (fun a _ ρ' H' => ∀ v, Rv K H' ρ' v a → Q v H') (W · · σ ·) := p
  refine hi ρ H st σ env _ rel re ?_
  cases e : mi env st with
  | no => rw [e] at p; exact p
  | ex c d s1 => rw [e] at p; exact p
  | ok xo s1 =>
    rw [e] at p
    obtain ⟨xs, ok⟩ := xo
    intro ρ1 H1 e1 r1 J hJ D nD
    obtain ⟨e2, r2⟩ := r1.new (o := .lst []) (u := .lst []) nD fun H' e' h' => ⟨[], h', .nil⟩
    have hD := r1.last D
    have p1 : Post K w (ρ1 ++ [D]) (upd H1 D (.lst [])) (lcL s1.length ok m ft fe (wipeA env vs) xs (s1 ++ [.lst []])) (fun a _ ρ' H' => ∀ v, Rv K H' ρ' v a → Q v H') (W · · σ ·) := Post.ext p (e1.trans e2)
    refine ⟨fun i n H2 => n = xs.length - i ∧ i ≤ xs.length ∧ ∃ ρ2 s2, Ext (ρ1 ++ [D]) ρ2 (upd H1 D (.lst [])) H2 ∧ Rel K w ρ2 H2 s2 ∧ Post K w ρ2 H2 (lcL s1.length ok m ft fe (wipeA env vs) (xs.drop i) s2) (fun a _ ρ' H' => ∀ v, Rv K H' ρ' v a → Q v H') (W · · σ ·), ⟨_, rfl, Nat.zero_le _, _, _, Ext.refl _ _, r2, by rw [List.drop_zero]; exact p1⟩, ?_⟩
    rintro i n H2 ⟨rfl, hi2, ρ2, s2, e3, r3, p2⟩
    have e13 := e2.trans e3
    by_cases lt : i < xs.length
    · have ea : xs[i]? = some xs[i] := List.getElem?_eq_getElem lt
      rw [List.drop_eq_getElem_cons lt] at p2
      unfold lcL at p2
      split at p2
      · rename_i hok
        obtain ⟨hgo, hy⟩ := hJ.go i _ ρ2 H2 s2 e13 r3 hok ea
        refine .inr ⟨hgo, fun H' => ∃ ρ3 s3, Ext (ρ1 ++ [D]) ρ3 (upd H1 D (.lst [])) H' ∧ Rel K w ρ3 H' s3 ∧ Post K w ρ3 H' (lcL s1.length ok m ft fe (wipeA env vs) (xs.drop (i + 1)) s3) (fun a _ ρ' H' => ∀ v, Rv K H' ρ' v a → Q v H') (W · · σ ·), fun H' hN => ⟨xs.length - (i + 1), by omega, rfl, lt, hN⟩, fun x H' yl => ?_⟩
        obtain ⟨sm, hx⟩ := hy x H' yl
        have e4 : Ext ρ2 ρ2 H2 H' := Ext.same sm
        have r4 := r3.same sm
        refine hg H' ρ2 (L2.wipe σ vs) (wipeA env vs) x _ _ ((re.ext (e1.trans (e13.trans e4))).wipe vs) hx ?_
        cases em : m xs[i] (wipeA env vs) with
        | none => rw [em] at p2; exact p2
        | some env3 =>
          rw [em] at p2
          intro σ3 re3 wp
          have ww : L2.wipe (L2.wipe σ vs) vs = L2.wipe σ vs := by
            have : ∀ us : List Nat, (∀ u ∈ us, u ∈ vs) → L2.wipe (L2.wipe σ us) vs = L2.wipe σ vs := fun us => by
              induction us with
              | nil => intro _; rfl
              | cons u us ih =>
                intro hu
                show L2.wipe ((L2.wipe σ us).set u none) vs = L2.wipe σ vs
                rw [wipe_set (hu u List.mem_cons_self), ih fun z hz => hu z (List.mem_cons_of_mem _ hz)]
            exact this vs fun _ h => h
          refine ⟨wp.trans ww, ht ρ2 H' s2 σ3 env3 _ r4 re3 (noX_use (Post.ext p2 e4) fun k s5 ρ5 H5 e5 r5 p5 => ?_)⟩
          cases k with
          | false =>
            refine iteF ⟨ρ5, s5, e3.trans (e4.trans e5), r5, p5⟩
          | true =>
            refine iteT (he ρ5 H5 s5 σ3 env3 _ r5 (re3.ext e5) (noX_use p5 fun y s6 ρ6 H6 e6 r6 p6 v hv => ?_))
            split at p6
            · rename_i acc ea2
              obtain ⟨us, h1, h2⟩ := r6.get ((e3.trans (e4.trans (e5.trans e6))).get hD) ea2
              split at p6
              · rename_i hl
                obtain ⟨e7, r7⟩ := set_put r6 ((e3.trans (e4.trans (e5.trans e6))).get hD) (h2.append (.cons hv .nil))
                exact ⟨us, h1, by rw [h2.length]; exact hl, ρ6, _, e3.trans (e4.trans (e5.trans (e6.trans e7))), r7, Post.ext p6 e7⟩
              · exact p6.elim
            · exact p6.elim
      · exact p2.elim
    · obtain rfl : i = xs.length := by omega
      rw [List.drop_length] at p2
      unfold lcL at p2
      split at p2
      · rename_i hok
        exact .inl ⟨hJ.stop ρ2 H2 s2 e13 r3 hok, p2.give r3 (.ref (e3.get hD))⟩
      · exact p2.elim
def mYes : MT := fun _ st => .ok true st
theorem rt_yes : RT K w W tYes mYes := fun ρ H st σ env Q rel re p => p ρ H (Ext.refl _ _) rel
/-! ### calls -/
def spM (K : PySem.W.Frag) (w : World) (n : Nat) (m : List A → Sto → Res A) : Sp := fun vs H Q E => ∃ ρ st as, vs.length = n ∧ Rel K w ρ H st ∧ Rvs K H ρ vs as ∧ Post K w ρ H (m as st) (fun a _ ρ' H' => ∀ v, Rv K H' ρ' v a → Q v H') (fun c d H' => E c d H')
/-- .. of a def that lets nothing out -/
def spN (K : PySem.W.Frag) (w : World) (n : Nat) (m : List A → Sto → Res A) : Sp := spM K w n fun as st => noX (m as st)
theorem noX_any {α : Type} {ρ : List Addr} {H : Hp} {r : Res α} {R : α → Sto → List Addr → Hp → Prop} {X X' : Value → Option Addr → Hp → Prop} (p : Post K w ρ H (noX r) R X) : Post K w ρ H (noX r) R X' := by
  cases r with
  | ok a s => exact p
  | ex c d s => exact p
  | no => exact p
def mCall (n : Nat) (m : List A → Sto → Res A) (f : MA) : ME := fun env st => (f env st).bind fun as s => if as.length = n then noX (m as s) else .no
theorem re_call {n : Nat} {m : List A → Sto → Res A} {t : TA} {f : MA} (hf : RA K w W t f) : RE K w W (tCall (spN K w n m) [] E0 t) (mCall n m f) := fun ρ H st σ env Q rel re p =>
  hf.use rel re p fun as s1 ρ1 H1 vs e1 r1 v1 p1 => by
    split at p1
    · rename_i hl
      exact ⟨ρ1, s1, as, by rw [List.append_nil, v1.length]; exact hl, r1, by rw [List.append_nil]; exact v1, noX_any p1⟩
    · exact p1.elim
def fin : RF → Res A
  | .fl (.rt a) s => .ok a s
  | .fl (.nx _) s => .ok .non s
  | .ex c d _ s => .ex c d s
  | _ => .no
def runB (n : Nat) (b : MS) : List A → Sto → Res A := fun as st => fin (b (as.map some ++ List.replicate (n - as.length) none) st)
theorem renv_start {ρ : List Addr} {H : Hp} {N : List Str} {vs : List V} {as : List A} (h : Rvs K H ρ vs as) : Renv K H ρ (L2.start N vs) (as.map some ++ List.replicate (N.length - as.length) none) := by
  have hl := h.length
  refine ⟨by unfold L2.start; simp [hl], fun i a e => ?_⟩
  by_cases hi : i < as.length
  · rw [List.getElem?_append_left (by simpa using hi), List.getElem?_map] at e
    obtain ⟨b, eb, ec⟩ := Option.map_eq_some_iff.mp e
    cases ec
    obtain ⟨v, ev, rv⟩ := h.get eb
    refine ⟨v, ?_, rv⟩
    unfold L2.start
    rw [List.getElem?_append_left (by rw [List.length_map, hl]; exact hi), List.getElem?_map, ev]
    rfl
  · rw [List.getElem?_append_right (by simpa using Nat.le_of_not_lt hi)] at e
    rw [List.getElem?_replicate] at e
    split at e
    · cases e
    · cases e
/-- a def's promise by its mirror: nothing leaves it -/
theorem spN_body {N : List Str} {n : Nat} {b : MS} {t : TS} (hb : RS K w WF t b) {vs : List V} {H : Hp} {Q : VK} {E : XK} (h : spN K w n (runB N.length b) vs H Q E) : t { nx := fun _ H' => Q .non H', rt := Q } (L2.start N vs) H := by
  obtain ⟨ρ, st, as, _, rel, rv, p⟩ := h
  refine hb ρ H st _ _ _ rel (renv_start rv) ?_
  replace p : Post K w ρ H (noX (runB N.length b as st)) (fun a _ ρ' H' => ∀ v, Rv K H' ρ' v a → Q v H') (fun c d H' => E c d H') := p
  unfold runB at p
  cases e : b (as.map some ++ List.replicate (N.length - as.length) none) st with
  | no => rw [e] at p; exact p
  | ex c d e2 s => rw [e] at p; exact p.elim
  | fl f s =>
    rw [e] at p
    cases f with
    | nx e2 => exact fun ρ' H' σ' e' r' _ => p ρ' H' e' r' _ .non
    | rt a => exact fun ρ' H' v e' r' hv => p ρ' H' e' r' v hv
    | bk e2 => exact p.elim
    | ct e2 => exact p.elim
end
/-! ### operators by the kinds of what they meet -/
section
variable {w : World} {W : WishX} {X : Cx}
def rAddD (K : PySem.W.Frag) : R2 := rOr (rI0 fun i j => .int (i + j)) (rOr (fun x y H Q => ∃ i j, x = .str i ∧ y = .str j ∧ i.length + j.length ≤ sizeLine ∧ Q (.str (i ++ j)) H) (rOr (rCatA K) rCat))
theorem dAdd : OpR X (binaryOp .Add) (rAddD X.K) := OpR.or op_add (OpR.or op_add_str (OpR.or op_catA op_cat))
def oAdd : A → A → Sto → Res A := oOr (fun a _ => isInt a) (oI0 fun i j => .int (i + j)) (oOr (fun a _ => isStr a) (oS (fun i j => decide (i.length + j.length ≤ sizeLine)) fun i j => .str (i ++ j)) (oOr (fun a _ => isTup a) oCatT oCat))
theorem r2_add : R2ok K w (rAddD K) oAdd := r2_or (r2_I0 fun _ _ _ _ => .int _) (r2_or r2_addS (r2_or r2_catT r2_cat))
def rSubD : R2 := rI0 fun i j => .int (i - j)
theorem dSub : OpR X (binaryOp .Sub) rSubD := op_sub
def oSub : A → A → Sto → Res A := oI0 fun i j => .int (i - j)
theorem r2_sub : R2ok K w rSubD oSub := r2_I0 fun _ _ _ _ => .int _
def rMulD : R2 := rOr (rI CMul fun i j => .int (i * j)) rRep
theorem dMul : OpR X (binaryOp .Mult) rMulD := OpR.or op_mul op_rep
def cMul (i j : Int) : Bool := decide ((-(2 ^ 64) < i ∧ i < 2 ^ 64) ∨ (-(2 ^ 64) < j ∧ j < 2 ^ 64))
def oMul : A → A → Sto → Res A := oOr (fun a _ => isInt a) (oI cMul fun i j => .int (i * j)) oRep
theorem r2_mul : R2ok K w rMulD oMul := r2_or (r2_I (fun _ _ h => by have := of_decide_eq_true h; exact this) fun _ _ _ _ => .int _) r2_rep
def rDivD : R2 := rI CDivW fun i j => .int (i / j)
theorem dDiv : OpR X (binaryOp .FloorDiv) rDivD := op_fdivW
def oDiv : A → A → Sto → Res A := oI (fun _ j => decide (0 < j ∧ j.natAbs.log2 < 9000)) fun i j => .int (i / j)
theorem r2_div : R2ok K w rDivD oDiv := r2_I (fun _ _ h => by have := of_decide_eq_true h; exact this) fun _ _ _ _ => .int _
def rModD : R2 := rI (fun _ j => 0 < j) fun i j => .int (i % j)
theorem dMod : OpR X (binaryOp .Mod) rModD := op_mod
def oMod : A → A → Sto → Res A := oI (fun _ j => decide (0 < j)) fun i j => .int (i % j)
theorem r2_mod : R2ok K w rModD oMod := r2_I (fun _ _ h => by have := of_decide_eq_true h; exact this) fun _ _ _ _ => .int _
def rPowD : R2 := rI CPow fun i j => .int (i ^ j.toNat)
theorem dPow : OpR X (binaryOp .Pow) rPowD := op_pow
def oPow : A → A → Sto → Res A := oI (fun i j => decide (0 ≤ j ∧ j ≤ 1000000 ∧ i.natAbs < 2 ^ 64)) fun i j => .int (i ^ j.toNat)
theorem r2_pow : R2ok K w rPowD oPow := r2_I (fun _ _ h => by have := of_decide_eq_true h; exact this) fun _ _ _ _ => .int _
def rLtD : R2 := rOr (rI0 fun i j => .bl (decide (i < j))) (fun x y H Q => ∃ i j, x = .str i ∧ y = .str j ∧ Q (.bl (decide (i.cps.toList < j.cps.toList))) H)
theorem dLt : OpR X (compareOp .Lt) rLtD := OpR.or op_lt op_lt_str
def oLt : A → A → Sto → Res A := oOr (fun a _ => isInt a) (oI0 fun i j => .bl (decide (i < j))) (oS (fun _ _ => true) fun i j => .bl (decide (i.cps.toList < j.cps.toList)))
theorem r2_lt : R2ok K w rLtD oLt := r2_or (r2_I0 fun _ _ _ _ => .bl _) (r2_cmpS (g := fun i j => decide (i.cps.toList < j.cps.toList)))
def rLeD : R2 := rOr (rI0 fun i j => .bl (decide (i ≤ j))) (fun x y H Q => ∃ i j, x = .str i ∧ y = .str j ∧ Q (.bl (!decide (j.cps.toList < i.cps.toList))) H)
theorem dLe : OpR X (compareOp .LtE) rLeD := OpR.or op_le op_le_str
def oLe : A → A → Sto → Res A := oOr (fun a _ => isInt a) (oI0 fun i j => .bl (decide (i ≤ j))) (oS (fun _ _ => true) fun i j => .bl (!decide (j.cps.toList < i.cps.toList)))
theorem r2_le : R2ok K w rLeD oLe := r2_or (r2_I0 fun _ _ _ _ => .bl _) (r2_cmpS (g := fun i j => !decide (j.cps.toList < i.cps.toList)))
def rGtD : R2 := rI0 fun i j => .bl (decide (j < i))
theorem dGt : OpR X (compareOp .Gt) rGtD := op_gt
def oGt : A → A → Sto → Res A := oI0 fun i j => .bl (decide (j < i))
theorem r2_gt : R2ok K w rGtD oGt := r2_I0 fun _ _ _ _ => .bl _
def rGeD : R2 := rI0 fun i j => .bl (decide (j ≤ i))
theorem dGe : OpR X (compareOp .GtE) rGeD := op_ge
def oGe : A → A → Sto → Res A := oI0 fun i j => .bl (decide (j ≤ i))
theorem r2_ge : R2ok K w rGeD oGe := r2_I0 fun _ _ _ _ => .bl _
def rEqAny (K : PySem.W.Frag) : R2 := rOr rEq (rEqD K)
theorem dEq (hu : X.A.units + 64 < cLine) : OpR X (compareOp .Eq) (rEqAny X.K) := OpR.or op_eq (op_eqD hu)
theorem r2_eqA : R2ok K w (rEqAny K) oEq := r2_eq
def rNeAny (K : PySem.W.Frag) : R2 := rOr rNe (rNeD K)
theorem dNe (hu : X.A.units + 64 < cLine) : OpR X (compareOp .NotEq) (rNeAny X.K) := OpR.or op_ne (op_neD hu)
theorem r2_neA : R2ok K w (rNeAny K) oNe := r2_ne
def rIsN : R2 := fun x y H Q => y = .non ∧ Q (.bl (decide (x = .non))) H
theorem dIs : OpR X (compareOp .Is) rIsN := op_isN
theorem r2_isN : R2ok K w rIsN oIs := r2_is
def rNotN : R2 := fun x y H Q => y = .non ∧ Q (.bl (!decide (x = .non))) H
theorem dIsNot : OpR X (compareOp .IsNot) rNotN := op_notN
theorem r2_notN : R2ok K w rNotN oIsNot := r2_isnot
def rInAny (K : PySem.W.Frag) : R2 := rOr (fun x y H Q => ∃ (c : Nat) (z : Str), x = .str ⟨#[c]⟩ ∧ y = .str z ∧ Q (.bl (decide (c ∈ z.cps.toList))) H) (rOr (rIn K false) (rInD K))
theorem dIn (hu : X.A.units + 65 < cLine) : OpR X (compareOp .In) (rInAny X.K) := OpR.or op_in_sign (OpR.or op_in_seq (op_inD hu))
def flatIn (a b : A) : Bool := match b with
  | .tup _ => true
  | _ => flatA a
def oIn : A → A → Sto → Res A := oOr (fun _ b => isStr b) (oInS false) (oOr flatIn oInF oInD)
theorem r2_in : R2ok K w (rInAny K) oIn := r2_or r2_inS (r2_or r2_inF r2_inD)
def rNotInAny (K : PySem.W.Frag) : R2 := rOr (fun x y H Q => ∃ (c : Nat) (z : Str), x = .str ⟨#[c]⟩ ∧ y = .str z ∧ Q (.bl (!decide (c ∈ z.cps.toList))) H) (rOr (rIn K true) (rNotInD K))
theorem dNotIn (hu : X.A.units + 65 < cLine) : OpR X (compareOp .NotIn) (rNotInAny X.K) := OpR.or op_notIn_sign (OpR.or op_notIn_seq (op_notInD hu))
def oNotIn : A → A → Sto → Res A := oOr (fun _ b => isStr b) (oInS true) (oOr flatIn oNotInF oNotInD)
theorem r2_notIn : R2ok K w (rNotInAny K) oNotIn := r2_or r2_notInS (r2_or r2_notInF r2_notInD)
def rIxAny (K : PySem.W.Frag) : R2 := rOr (rIxT K) (rOr rIxS (rIxL K))
theorem dIx : IxR X (rIxAny X.K) := IxR.or ix_tup (IxR.or ix_str ix_list)
def oIxD : A → A → Sto → Res A := oOr (fun a _ => isTup a) oIxT (oOr (fun a _ => isStr a) oIxS oIx)
theorem r2_ixD : R2ok K w (rIxAny K) oIxD := r2_or r2_ixT (r2_or r2_ixS r2_ix)
def oNeg : A → Sto → Res A := fun a st => match a with
  | .int i => .ok (.int (-i)) st
  | _ => .no
theorem r1_neg : R1ok K w (rU fun i => .int (-i)) oNeg := fun ρ H st x a Q X rel ra p => by
  unfold oNeg at p
  split at p
  · cases ra
    exact ⟨_, rfl, p.give rel (.int _)⟩
  · exact p.elim
end

/-! ### mirrors: stores, more that is walked, more built-ins -/
section
variable {w : World} {W : WishX}
theorem rs_putL {ta to ti : TE} {f o i : ME} (hf : RE K w W ta f) (ho : RE K w W to o) (hi : RE K w W ti i) : RS K w W (tAsg ta (gSub to ti L2.rSetL)) (sPutL f o i) := fun ρ H st σ env D rel re p =>
  hf.useS rel re p fun a s1 ρ1 H1 x e1 r1 v1 p1 => ho.useS r1 (re.ext e1) p1 fun b s2 ρ2 H2 y e2 r2 v2 p2 => hi.useS r2 (re.ext (e1.trans e2)) p2 fun c s3 ρ3 H3 z e3 r3 v3 p3 => by
    split at p3
    · rename_i k n xs em
      cases v3
      obtain ⟨q, vs, ee, hq, h1, h2⟩ := getM_is r3 (rv_ext e3 v2) em
      cases ee
      split at p3
      · rename_i j ej
        have hv := rv_ext (e2.trans e3) v1
        obtain ⟨e4, r4⟩ := set_put r3 hq (h2.set hv j)
        exact ⟨q, vs, k, j, rfl, rfl, h1, by rw [h2.length]; exact ej, p3 ρ3 _ σ e4 r4 (re.ext (e1.trans (e2.trans (e3.trans e4))))⟩
      · exact p3.elim
    · exact p3.elim
/-- a text, sign by sign -/
def signs (z : Str) : List A := z.cps.toList.map fun c => A.str ⟨#[c]⟩
def miS (f : ME) : MI := fun env st => (f env st).bind fun a s => match a with
  | .str z => .ok (signs z, fun _ => True) s
  | _ => .no
theorem ri_str {t : TE} {f : ME} (hf : RE K w W t f) : RI K w W (iStr t) (miS f) := fun ρ H st σ env R rel re p =>
  hf.use rel re p fun a s1 ρ1 H1 x e1 r1 v1 p1 => by
    split at p1
    · rename_i z
      cases v1
      refine ⟨z, rfl, p1 ρ1 H1 (Ext.refl _ _) r1 _ ⟨fun i b ρ' H' st' e' r' _ eb => ?_, fun ρ' H' st' e' r' _ => ?_⟩⟩
      · unfold signs at eb
        rw [List.getElem?_map] at eb
        obtain ⟨c, ec, rfl⟩ := Option.map_eq_some_iff.mp eb
        have hi : i < z.cps.size := by
          have := (List.getElem?_eq_some_iff.mp ec).1
          simpa using this
        refine ⟨(walk_str (z := z)).goes i H' hi trivial, fun x H2 y => ?_⟩
        obtain ⟨rfl, c', ec', rfl⟩ := (walk_str (z := z)).yields i H' x H2 hi trivial y
        rw [Array.getElem?_toList] at ec
        rw [ec] at ec'
        cases ec'
        exact ⟨Same.refl _, .str _⟩
      · have := (walk_str (z := z)).stops H' trivial
        show (Its z).stop (signs z).length H'
        unfold signs
        rw [List.length_map]
        simpa using this
    · exact p1.elim
/-- isinstance(x, (S, T)) -/
def mIsiT (S T : String) (f : ME) : ME := fun env st => (f env st).bind fun a s => match tyA s a with
  | some t => if S ∈ ["int", "bool", "str", "tuple", "list"] ∧ T ∈ ["int", "bool", "str", "tuple", "list"] then .ok (.bl (isTy t S || isTy t T)) s else .no
  | none => .no
theorem kit_any2 {t S T : String} (ht : t ∈ ["NoneType", "bool", "int", "str", "list", "tuple", "dict"]) (hS : S ∈ ["int", "bool", "str", "tuple", "list"]) (hT : T ∈ ["int", "bool", "str", "tuple", "list"]) : PySem.W.kitAny K (.type t) [.type S, .type T] = some (isTy t S || isTy t T) := by
  have h1 := kit_ty (K := K) (kit_all t ht S hS)
  have h2 := kit_ty (K := K) (kit_all t ht T hT)
  unfold PySem.W.kitAny PySem.W.kitAny PySem.W.kitAny
  rw [h1, h2]
  cases isTy t S <;> cases isTy t T <;> rfl
theorem re_isiT {S T : String} {t : TE} {f : ME} (hf : RE K w W t f) : RE K w W (tCB (rIsiT K) (tCons t (tCons (tTup (tCons (tC (.ty S)) (tCons (tC (.ty T)) tNil))) tNil))) (mIsiT S T f) := fun ρ H st σ env Q rel re p =>
  hf.use rel re p fun a s1 ρ1 H1 x e1 r1 v1 p1 => by
    split at p1
    · rename_i ty et
      split at p1
      · rename_i hc
        refine ⟨by show 2 ≤ sizeLine; decide, fun q nq => ?_⟩
        have sm := same_upd (o := .tup [V.ty S, V.ty T]) nq
        obtain ⟨h1, h2⟩ := tyA_x (r1.same sm) (rv_ext (Ext.same sm) v1) et
        exact ⟨x, q, _, _, _, _, rfl, upd_same, .cons (.ty _) (.cons (.ty _) .nil), h1, kit_any2 h2 hc.1 hc.2, p1.giveAt (Ext.same sm) (r1.same sm) (.bl _)⟩
      · exact p1.elim
    · exact p1.elim
/-- all(..), any(..) of a list of truths -/
def bls : List A → Option (List Bool)
  | [] => some []
  | .bl b :: xs => (bls xs).map (b :: ·)
  | _ => none
theorem bls_is {ρ : List Addr} {H : Hp} : ∀ {vs : List V} {xs : List A} {bs : List Bool}, Rvs K H ρ vs xs → bls xs = some bs → vs = bs.map V.bl
  | _, _, _, .nil, e => by cases e; rfl
  | _, _, _, .cons h hs, e => by
    cases h with
    | bl b =>
      obtain ⟨cs, e1, rfl⟩ := Option.map_eq_some_iff.mp (show (bls _).map (b :: ·) = some _ from e)
      rw [bls_is hs e1]
      rfl
    | _ => cases e
def oAll (g : List Bool → Bool) : List A → Sto → Res A := fun as st => match as with
  | [a] => match getL st a with
    | some xs => lift ((bls xs).map fun bs => A.bl (g bs)) st
    | none => .no
  | _ => .no
theorem rl_all : RLok K w (rAll K) (oAll fun bs => bs.all id) := fun ρ H st vs as Q X rel rv p => by
  unfold oAll at p
  split at p
  · split at p
    · rename_i xs e
      obtain ⟨v, rfl, h⟩ := rvs1 rv
      obtain ⟨q, us, rfl, h1, h2⟩ := getL_sq rel h e
      cases eb : bls xs with
      | none => rw [eb] at p; exact p.elim
      | some bs =>
        rw [eb] at p
        have := bls_is h2 eb
        subst this
        exact ⟨q, bs, rfl, h1, p.give rel (.bl _)⟩
    · exact p.elim
  · exact p.elim
theorem rl_any : RLok K w (rAny K) (oAll fun bs => bs.any id) := fun ρ H st vs as Q X rel rv p => by
  unfold oAll at p
  split at p
  · split at p
    · rename_i xs e
      obtain ⟨v, rfl, h⟩ := rvs1 rv
      obtain ⟨q, us, rfl, h1, h2⟩ := getL_sq rel h e
      cases eb : bls xs with
      | none => rw [eb] at p; exact p.elim
      | some bs =>
        rw [eb] at p
        have := bls_is h2 eb
        subst this
        exact ⟨q, bs, rfl, h1, p.give rel (.bl _)⟩
    · exact p.elim
  · exact p.elim
/-- the truth of a value -/
def mTruth (f : ME) : MT := fun env st => (f env st).bind fun a s => match a with
  | .non => .ok false s
  | .bl b => .ok b s
  | .int i => .ok (i != 0) s
  | .str y => if y.length ≤ sizeLine then .ok ((y.length : Int) != 0) s else .no
  | .ref n => match s[n]? with
    | some (.lst xs) => .ok (!xs.isEmpty) s
    | some (.dK xs) => .ok (!xs.isEmpty) s
    | _ => .no
  | .tup xs => .ok (!xs.isEmpty) s
  | _ => .no
theorem rvs_empty {ρ : List Addr} {H : Hp} {vs : List V} {xs : List A} (h : Rvs K H ρ vs xs) : vs.isEmpty = xs.isEmpty := by cases h <;> rfl
theorem rkv_empty {κ : Type} {ρ : List Addr} {H : Hp} {vs : List (κ × V)} {xs : List (κ × A)} (h : Rkv K H ρ vs xs) : vs.isEmpty = xs.isEmpty := by cases h <;> rfl
theorem rt_truth {t : TE} {f : ME} (hf : RE K w W t f) : RT K w W (fun σ H Q => t σ H fun x H' => ∃ k, TruV K x H' k ∧ Q k H') (mTruth f) := fun ρ H st σ env Q rel re p =>
  hf.use rel re p fun a s1 ρ1 H1 x e1 r1 v1 p1 => by
    split at p1
    · cases v1; exact ⟨_, rfl, p1.giveB r1⟩
    · cases v1; exact ⟨_, rfl, p1.giveB r1⟩
    · cases v1; exact ⟨_, rfl, p1.giveB r1⟩
    · cases v1
      split at p1
      · rename_i hl
        exact ⟨_, ⟨hl, rfl⟩, p1.giveB r1⟩
      · exact p1.elim
    · cases v1 with
      | ref h =>
        split at p1
        · rename_i xs e
          obtain ⟨vs, h1, h2⟩ := r1.get h e
          exact ⟨_, .inl ⟨vs, SqL.of h1, rfl⟩, by rw [rvs_empty h2]; exact p1.giveB r1⟩
        · rename_i xs e
          obtain ⟨vs, h1, h2⟩ := r1.get h e
          exact ⟨_, .inr (.inr ⟨vs, h1, rfl⟩), by rw [rkv_empty h2]; exact p1.giveB r1⟩
        · exact p1.elim
    · obtain ⟨q, vs, rfl, h1, h2⟩ := getT_sq v1 rfl
      exact ⟨_, .inr (.inl ⟨vs, h1, rfl⟩), by rw [rvs_empty h2]; exact p1.giveB r1⟩
    · exact p1.elim
end

/-! ### mirrors: how they go, step by step -/
section
variable {α β : Type} {a b : A} {s st : Sto} {env e : AEnv}
theorem ev_bok {x : α} {k : α → Sto → Res β} : (Res.ok x s).bind k = k x s := rfl
theorem ev_bno {k : α → Sto → Res β} : (Res.no : Res α).bind k = .no := rfl
theorem ev_bex {c : Addr} {d : Option Nat} {k : α → Sto → Res β} : (Res.ex c d s : Res α).bind k = .ex c d s := rfl
theorem ev_tok {x : α} {k : α → Sto → RF} : (Res.ok x s).thenS e k = k x s := rfl
theorem ev_tno {k : α → Sto → RF} : (Res.no : Res α).thenS e k = .no := rfl
theorem ev_tex {c : Addr} {d : Option Nat} {k : α → Sto → RF} : (Res.ex c d s : Res α).thenS e k = .ex c d e s := rfl
theorem ev_nnx {k : MS} : (RF.fl (.nx e) s).next k = k e s := rfl
theorem ev_nrt {k : MS} : (RF.fl (.rt a) s).next k = .fl (.rt a) s := rfl
theorem ev_nbk {k : MS} : (RF.fl (.bk e) s).next k = .fl (.bk e) s := rfl
theorem ev_nct {k : MS} : (RF.fl (.ct e) s).next k = .fl (.ct e) s := rfl
theorem ev_nex {c : Addr} {d : Option Nat} {k : MS} : (RF.ex c d e s).next k = .ex c d e s := rfl
theorem ev_nno {k : MS} : RF.no.next k = .no := rfl
theorem ev_frt : fin (.fl (.rt a) s) = .ok a s := rfl
theorem ev_fnx : fin (.fl (.nx e) s) = .ok .non s := rfl
theorem ev_fex {c : Addr} {d : Option Nat} : fin (.ex c d e s) = .ex c d s := rfl
theorem ev_xok {x : α} : noX (Res.ok x s) = .ok x s := rfl
theorem ev_lsome {x : α} : lift (some x) st = .ok x st := rfl
theorem ev_lnone : lift (none : Option α) st = .no := rfl
theorem ev_seq {f g : MS} : sSeq f g env st = (f env st).next g := rfl
theorem ev_if {c : MT} {f g : MS} : sIf c f g env st = (c env st).thenS env fun b s => if b = true then f env s else g env s := rfl
theorem ev_ret {f : ME} : sRet f env st = (f env st).thenS env fun a s => .fl (.rt a) s := rfl
theorem ev_retN : sRetN env st = .fl (.rt .non) st := rfl
theorem ev_drop {f : ME} : sDrop f env st = (f env st).thenS env fun _ s => .fl (.nx env) s := rfl
theorem ev_nop : sNext env st = .fl (.nx env) st := rfl
theorem ev_brk : sBreak env st = .fl (.bk env) st := rfl
theorem ev_cont : sCont env st = .fl (.ct env) st := rfl
theorem ev_asgN {f : ME} {i : Nat} : sAsg f (mgName i) env st = (f env st).thenS env fun a s => .fl (.nx (env.set i (some a))) s := rfl
def asgO (o : Option AEnv) (s : Sto) : RF := match o with
  | some e => .fl (.nx e) s
  | none => .no
theorem ev_asgT {f : ME} {g : MGs} : sAsg f (mgTup g) env st = (f env st).thenS env fun a s => asgO (mgTup g a env) s := rfl
theorem ev_asgO : asgO (some e) s = .fl (.nx e) s := rfl
theorem ev_mgTup {g : MGs} {xs : List A} : mgTup g (.tup xs) env = g xs env := rfl
theorem ev_mgN {i : Nat} : mgName i a env = some (env.set i (some a)) := rfl
theorem ev_mgC {i : Nat} {g : MGs} {xs : List A} : mgCons (mgName i) g (a :: xs) env = g xs (env.set i (some a)) := rfl
theorem ev_mg0 : mgNil [] env = some env := rfl
def putO (y : A) (m : Option (Nat × List A)) (a : A) (env : AEnv) (s : Sto) : RF := match y, m with
  | .int k, some (n, xs) => match ixN xs.length k with
    | some j => .fl (.nx env) (s.set n (.lst (xs.set j a)))
    | none => .no
  | _, _ => .no
theorem ev_putL {f o i : ME} : sPutL f o i env st = (f env st).thenS env fun a s1 => (o env s1).thenS env fun x s2 => (i env s2).thenS env fun y s3 => putO y (getM s3 x) a env s3 := rfl
theorem ev_putO {k : Int} {n j : Nat} {xs : List A} (h : ixN xs.length k = some j) : putO (.int k) (some (n, xs)) a env s = .fl (.nx env) (s.set n (.lst (xs.set j a))) := by
  unfold putO
  simp only [h]
def vr (o : Option (Option A)) (st : Sto) : Res A := match o with
  | some (some a) => .ok a st
  | _ => .no
theorem ev_var {i : Nat} : mVar i env st = vr env[i]? st := rfl
theorem ev_vr : vr (some (some a)) st = .ok a st := rfl
theorem ev_c : mC a env st = .ok a st := rfl
theorem ev_op {op : A → A → Sto → Res A} {f g : ME} : mOp op f g env st = (f env st).bind fun x s1 => (g env s1).bind fun y s2 => op x y s2 := rfl
theorem ev_un {op : A → Sto → Res A} {f : ME} : mUn op f env st = (f env st).bind fun x s1 => op x s1 := rfl
def tb (a : A) (s : Sto) : Res Bool := match a with
  | .bl b => .ok b s
  | _ => .no
theorem ev_test {f : ME} : mTest f env st = (f env st).bind tb := rfl
theorem ev_tb {b : Bool} : tb (.bl b) s = .ok b s := rfl
theorem ev_notT {f : MT} : mNotT f env st = (f env st).bind fun b s => .ok (!b) s := rfl
theorem ev_andT {f g : MT} : mAndT f g env st = (f env st).bind fun b s => if b = true then g env s else .ok false s := rfl
theorem ev_orT {f g : MT} : mOrT f g env st = (f env st).bind fun b s => if b = true then .ok true s else g env s := rfl
theorem ev_ifE {c : MT} {f g : ME} : mIfE c f g env st = (c env st).bind fun b s => if b = true then f env s else g env s := rfl
def nb (a : A) (s : Sto) : Res A := match a with
  | .bl b => .ok (.bl (!b)) s
  | _ => .no
theorem ev_not {f : ME} : mNot f env st = (f env st).bind nb := rfl
theorem ev_nb {b : Bool} : nb (.bl b) s = .ok (.bl (!b)) s := rfl
def andK (g : ME) (env : AEnv) (a : A) (s : Sto) : Res A := match a with
  | .bl b => if b = true then g env s else .ok (.bl false) s
  | _ => .no
theorem ev_and {f g : ME} : mAnd f g env st = (f env st).bind (andK g env) := rfl
theorem ev_andK {g : ME} {b : Bool} : andK g env (.bl b) s = if b = true then g env s else .ok (.bl false) s := rfl
def orK (g : ME) (env : AEnv) (a : A) (s : Sto) : Res A := match a with
  | .bl b => if b = true then .ok (.bl true) s else g env s
  | _ => .no
theorem ev_or {f g : ME} : mOr f g env st = (f env st).bind (orK g env) := rfl
theorem ev_orK {g : ME} {b : Bool} : orK g env (.bl b) s = if b = true then .ok (.bl true) s else g env s := rfl
def chK (o' : A → A → Sto → Res A) (h : ME) (env : AEnv) (y z : A) (s : Sto) : Res A := match z with
  | .bl true => (h env s).bind fun u s4 => o' y u s4
  | .bl false => .ok (.bl false) s
  | _ => .no
theorem ev_chain {o o' : A → A → Sto → Res A} {f g h : ME} : mChain o o' f g h env st = (f env st).bind fun x s1 => (g env s1).bind fun y s2 => (o x y s2).bind fun z s3 => chK o' h env y z s3 := rfl
theorem ev_chK {o' : A → A → Sto → Res A} {h : ME} {y : A} {c : Bool} : chK o' h env y (.bl c) s = if c = true then (h env s).bind fun u s4 => o' y u s4 else .ok (.bl false) s := by cases c <;> rfl
theorem ev_nil : mNil env st = .ok [] st := rfl
theorem ev_cons {f : ME} {g : MA} : mCons f g env st = (f env st).bind fun x s1 => (g env s1).bind fun xs s2 => .ok (x :: xs) s2 := rfl
theorem ev_tup {f : MA} : mTup f env st = (f env st).bind fun xs s => if xs.length ≤ sizeLine then .ok (.tup xs) s else .no := rfl
theorem ev_lst {f : MA} : mLst f env st = (f env st).bind fun xs s => if xs.length ≤ sizeLine then newO (.lst xs) s else .no := rfl
theorem ev_new {o : AO} : newO o st = .ok (.ref st.length) (st ++ [o]) := rfl
theorem ev_call {n : Nat} {m : List A → Sto → Res A} {f : MA} : mCall n m f env st = (f env st).bind fun as s => if as.length = n then noX (m as s) else .no := rfl
theorem ev_cb {op : List A → Sto → Res A} {f : MA} : mCB op f env st = (f env st).bind op := rfl
theorem ev_size : sizeLine = 16777216 := sizeLine_eq
/-! operators -/
variable {i j : Int} {x y : Str} {xs ys : List A}
theorem ev_addI : oAdd (.int i) (.int j) st = .ok (.int (i + j)) st := rfl
theorem ev_addS : oAdd (.str x) (.str y) st = if decide (x.length + y.length ≤ sizeLine) = true then .ok (.str (x ++ y)) st else .no := rfl
theorem ev_addT : oAdd (.tup xs) (.tup ys) st = if xs.length + ys.length ≤ sizeLine then .ok (.tup (xs ++ ys)) st else .no := rfl
def catO (p q : Option (Nat × List A)) (st : Sto) : Res A := match p, q with
  | some (_, xs), some (_, ys) => if xs.length + ys.length ≤ sizeLine then newO (.lst (xs ++ ys)) st else .no
  | _, _ => .no
theorem ev_addL {n : Nat} : oAdd (.ref n) b st = catO (getM st (.ref n)) (getM st b) st := rfl
theorem ev_catO {n m : Nat} : catO (some (n, xs)) (some (m, ys)) st = if xs.length + ys.length ≤ sizeLine then newO (.lst (xs ++ ys)) st else .no := rfl
theorem ev_sub : oSub (.int i) (.int j) st = .ok (.int (i - j)) st := rfl
theorem ev_mul : oMul (.int i) (.int j) st = if cMul i j = true then .ok (.int (i * j)) st else .no := rfl
theorem ev_div : oDiv (.int i) (.int j) st = if decide (0 < j ∧ j.natAbs.log2 < 9000) = true then .ok (.int (i / j)) st else .no := rfl
theorem ev_mod : oMod (.int i) (.int j) st = if decide (0 < j) = true then .ok (.int (i % j)) st else .no := rfl
theorem pow_ev : oPow (.int i) (.int j) st = if decide (0 ≤ j ∧ j ≤ 1000000 ∧ i.natAbs < 2 ^ 64) = true then .ok (.int (i ^ j.toNat)) st else .no := rfl
theorem ev_p5 : oPow (.int 10) (.int 5) st = .ok (.int 100000) st := rfl
theorem ev_p6 : oPow (.int 10) (.int 6) st = .ok (.int 1000000) st := rfl
theorem ev_p12 : oPow (.int 10) (.int 12) st = .ok (.int 1000000000000) st := rfl
theorem ev_p18 : oPow (.int 10) (.int 18) st = .ok (.int 1000000000000000000) st := rfl
theorem ev_p30 : oPow (.int 10) (.int 30) st = .ok (.int 1000000000000000000000000000000) st := rfl
theorem ev_neg : oNeg (.int i) st = .ok (.int (-i)) st := rfl
theorem ev_ltI : oLt (.int i) (.int j) st = .ok (.bl (decide (i < j))) st := rfl
theorem ev_ltS : oLt (.str x) (.str y) st = .ok (.bl (decide (x.cps.toList < y.cps.toList))) st := rfl
theorem ev_leI : oLe (.int i) (.int j) st = .ok (.bl (decide (i ≤ j))) st := rfl
theorem ev_leS : oLe (.str x) (.str y) st = .ok (.bl (!decide (y.cps.toList < x.cps.toList))) st := rfl
theorem ev_gt : oGt (.int i) (.int j) st = .ok (.bl (decide (j < i))) st := rfl
theorem ev_ge : oGe (.int i) (.int j) st = .ok (.bl (decide (j ≤ i))) st := rfl
theorem ev_eqI : oEq (.int i) (.int j) st = .ok (.bl (decide (i = j))) st := rfl
theorem ev_eqS : oEq (.str x) (.str y) st = .ok (.bl (decide (x = y))) st := rfl
theorem ev_neI : oNe (.int i) (.int j) st = .ok (.bl (!decide (i = j))) st := rfl
theorem ev_neS : oNe (.str x) (.str y) st = .ok (.bl (!decide (x = y))) st := rfl
theorem ev_neB {c d : Bool} : oNe (.bl c) (.bl d) st = .ok (.bl (!decide (c = d))) st := rfl
theorem ev_eqB {c d : Bool} : oEq (.bl c) (.bl d) st = .ok (.bl (decide (c = d))) st := rfl
theorem ev_is : oIs a .non st = .ok (.bl (isNon a)) st := rfl
theorem ev_isnot : oIsNot a .non st = .ok (.bl (!isNon a)) st := rfl
theorem ev_ixT : oIxD (.tup xs) (.int i) st = lift (atI xs i) st := rfl
theorem ev_ixS : oIxD (.str x) (.int i) st = if x.length ≤ sizeLine then lift ((atI x.cps.toList i).map fun c => A.str ⟨#[c]⟩) st else .no := rfl
def ixK (o : Option (List A)) (i : Int) (st : Sto) : Res A := match o with
  | some xs => lift (atI xs i) st
  | none => .no
theorem ev_ixR {n : Nat} : oIxD (.ref n) (.int i) st = ixK (getL st (.ref n)) i st := rfl
theorem ev_ixL : oIxD (.lit xs) (.int i) st = lift (atI xs i) st := rfl
theorem ev_ixK : ixK (some xs) i st = lift (atI xs i) st := rfl
def gL (o : Option AO) : Option (List A) := match o with
  | some (.lst xs) => some xs
  | _ => none
def gM (n : Nat) (o : Option AO) : Option (Nat × List A) := match o with
  | some (.lst xs) => some (n, xs)
  | _ => none
theorem ev_getL {n : Nat} : getL st (.ref n) = gL st[n]? := rfl
theorem ev_getM {n : Nat} : getM st (.ref n) = gM n st[n]? := rfl
theorem ev_gL : gL (some (.lst xs)) = some xs := rfl
theorem ev_gM {n : Nat} : gM n (some (.lst xs)) = some (n, xs) := rfl
theorem ev_at0 {α : Type} {x : α} {l : List α} : atI (x :: l) 0 = some x := atI_nat (j := 0) rfl
theorem ev_at1 {α : Type} {x x1 : α} {l : List α} : atI (x :: x1 :: l) 1 = some x1 := atI_nat (j := 1) rfl
theorem ev_at2 {α : Type} {x x1 x2 : α} {l : List α} : atI (x :: x1 :: x2 :: l) 2 = some x2 := atI_nat (j := 2) rfl
theorem ev_at3 {α : Type} {x x1 x2 x3 : α} {l : List α} : atI (x :: x1 :: x2 :: x3 :: l) 3 = some x3 := atI_nat (j := 3) rfl
theorem ev_at4 {α : Type} {x x1 x2 x3 x4 : α} {l : List α} : atI (x :: x1 :: x2 :: x3 :: x4 :: l) 4 = some x4 := atI_nat (j := 4) rfl
def lenR (o : Option AO) (st : Sto) : Res A := match o with
  | some (.lst xs) => .ok (.int xs.length) st
  | some (.dK kvs) => .ok (.int kvs.length) st
  | _ => .no
theorem ev_lenS : oLen [.str x] st = if x.length ≤ sizeLine then .ok (.int x.length) st else .no := rfl
theorem ev_lenR {n : Nat} : oLen [.ref n] st = lenR st[n]? st := rfl
theorem ev_lenT : oLen [.tup xs] st = .ok (.int xs.length) st := rfl
theorem ev_lenL : oLen [.lit xs] st = .ok (.int xs.length) st := rfl
theorem ev_lenO : lenR (some (.lst xs)) st = .ok (.int xs.length) st := rfl
theorem ev_lenD {kvs : List (Key × A)} : lenR (some (.dK kvs)) st = .ok (.int kvs.length) st := rfl
theorem ev_abs : oAbs [.int i] st = .ok (.int (if i < 0 then -i else i)) st := rfl
theorem ev_min2 : oMin2 [.int i, .int j] st = .ok (.int (if j < i then j else i)) st := rfl
theorem ev_max2 : oMax2 [.int i, .int j] st = .ok (.int (if j > i then j else i)) st := rfl
theorem ev_intI : oInt [.int i] st = .ok (.int i) st := rfl
theorem ev_intB {c : Bool} : oInt [.bl c] st = .ok (.int (if c then 1 else 0)) st := rfl
theorem ev_set {n : Nat} {o : AO} : (st.set n o)[n]? = Function.const AO o <$> st[n]? := List.getElem?_set_self'
theorem ev_fc {o o' : AO} : Function.const AO o <$> some o' = some o := rfl
theorem ev_setset {n : Nat} {o o' : AO} : (st.set n o).set n o' = st.set n o' := List.set_set ..
theorem ev_last {st : Sto} {o : AO} : (st ++ [o])[st.length]? = some o := by simp
theorem ev_appk {st l : Sto} {k : Nat} : (st ++ l)[st.length + k]? = l[k]? := by
  rw [List.getElem?_append_right (by omega)]
  congr 1
  omega
theorem ev_app0 {st l : Sto} : (st ++ l)[st.length]? = l[0]? := by
  rw [List.getElem?_append_right (Nat.le_refl _), Nat.sub_self]
theorem ev_setk {st l : Sto} {k : Nat} {o : AO} : (st ++ l).set (st.length + k) o = st ++ l.set k o := by
  rw [List.set_append, if_neg (by omega)]
  congr 2
  omega
theorem ev_set0 {st l : Sto} {o : AO} : (st ++ l).set st.length o = st ++ l.set 0 o := by
  rw [List.set_append, if_neg (by omega), Nat.sub_self]
theorem ev_assoc {a b c : Sto} : (a ++ b) ++ c = a ++ (b ++ c) := List.append_assoc ..
theorem ev_lapp {a b : Sto} : (a ++ b).length = a.length + b.length := List.length_append
theorem ev_lappA {a b : List A} : (a ++ b).length = a.length + b.length := List.length_append
end

/-! ### mirrors: in of a tuple of any data, == of an empty list, len(set(..)), texts, swaps -/
section
variable {w : World} {W : WishX} {X : Cx}
def rInTD (K : PySem.W.Frag) : R2 := fun x y H Q => ∃ d ds, Dp K H x d ∧ Dp K H y (.tuple ds) ∧ SeqAt.shaped d = true ∧ SeqAt.shaped (.tuple ds) = true ∧ Q (.bl (ds.any fun z => PyData.eqv z d)) H
def rNotInTD (K : PySem.W.Frag) : R2 := fun x y H Q => ∃ d ds, Dp K H x d ∧ Dp K H y (.tuple ds) ∧ SeqAt.shaped d = true ∧ SeqAt.shaped (.tuple ds) = true ∧ Q (.bl (!ds.any fun z => PyData.eqv z d)) H
theorem op_inTD (hu : X.A.units + 65 < cLine) : OpR X (compareOp .In) (rInTD X.K) := by
  intro pins s σ H x y v u Q I rx ry h
  obtain ⟨d, ds, hd, he, sd, se, q⟩ := h
  obtain ⟨as, r1⟩ := Dp.reads I d x v hd rx
  obtain ⟨bs, r2⟩ := Dp.reads I (.tuple ds) y u he ry
  exact SeqAt.in_tuple_reads r2 r1 (SeqAt.canLay_of_shaped se) (SeqAt.canLay_of_shaped sd) (room_in_shaped sd hu) ⟨.bl _, H, I, rfl, q⟩
theorem op_notInTD (hu : X.A.units + 65 < cLine) : OpR X (compareOp .NotIn) (rNotInTD X.K) := by
  intro pins s σ H x y v u Q I rx ry h
  obtain ⟨d, ds, hd, he, sd, se, q⟩ := h
  obtain ⟨as, r1⟩ := Dp.reads I d x v hd rx
  obtain ⟨bs, r2⟩ := Dp.reads I (.tuple ds) y u he ry
  exact SeqAt.notIn_tuple_reads r2 r1 (SeqAt.canLay_of_shaped se) (SeqAt.canLay_of_shaped sd) (room_in_shaped sd hu) ⟨.bl _, H, I, rfl, q⟩
def inTD (st : Sto) (a b : A) : Option Bool := match dat st deep a, dat st deep b with
  | some d, some (.tuple ds) => if SeqAt.shaped d = true ∧ SeqAt.shaped (.tuple ds) = true then some (ds.any fun z => PyData.eqv z d) else none
  | _, _ => none
def oInTD : A → A → Sto → Res A := fun a b st => lift ((inTD st a b).map A.bl) st
def oNotInTD : A → A → Sto → Res A := fun a b st => lift ((inTD st a b).map fun c => A.bl (!c)) st
theorem r2_inTD : R2ok K w (rInTD K) oInTD := fun ρ H st x y a b Q X rel ra rb p => by
  unfold oInTD inTD at p
  split at p
  · rename_i d ds e1 e2
    split at p
    · rename_i hs
      exact ⟨_, _, dat_dp rel _ _ _ _ ra e1, dat_dp rel _ _ _ _ rb e2, hs.1, hs.2, p.give rel (.bl _)⟩
    · exact p.elim
  · exact p.elim
theorem r2_notInTD : R2ok K w (rNotInTD K) oNotInTD := fun ρ H st x y a b Q X rel ra rb p => by
  unfold oNotInTD inTD at p
  split at p
  · rename_i d ds e1 e2
    split at p
    · rename_i hs
      exact ⟨_, _, dat_dp rel _ _ _ _ ra e1, dat_dp rel _ _ _ _ rb e2, hs.1, hs.2, p.give rel (.bl _)⟩
    · exact p.elim
  · exact p.elim
def tupDeep (a b : A) : Bool := isTup b && !flatA a
def rInX (K : PySem.W.Frag) : R2 := rOr (rInTD K) (rInAny K)
theorem dInX (hu : X.A.units + 65 < cLine) : OpR X (compareOp .In) (rInX X.K) := OpR.or (op_inTD hu) (dIn hu)
def oInX : A → A → Sto → Res A := oOr tupDeep oInTD oIn
theorem r2_inX : R2ok K w (rInX K) oInX := r2_or r2_inTD r2_in
def rNotInX (K : PySem.W.Frag) : R2 := rOr (rNotInTD K) (rNotInAny K)
theorem dNotInX (hu : X.A.units + 65 < cLine) : OpR X (compareOp .NotIn) (rNotInX X.K) := OpR.or (op_notInTD hu) (dNotIn hu)
def oNotInX : A → A → Sto → Res A := oOr tupDeep oNotInTD oNotIn
theorem r2_notInX : R2ok K w (rNotInX K) oNotInX := r2_or r2_notInTD r2_notIn
/-! == [] -/
def rEqNil (K : PySem.W.Frag) : R2 := fun x y H Q => ∃ a b xs, x = .ref a ∧ y = .ref b ∧ SqL K H a xs ∧ SqL K H b [] ∧ Q (.bl xs.isEmpty) H
def rNeNil (K : PySem.W.Frag) : R2 := fun x y H Q => ∃ a b xs, x = .ref a ∧ y = .ref b ∧ SqL K H a xs ∧ SqL K H b [] ∧ Q (.bl (!xs.isEmpty)) H
/-- both lists, the second empty: else it is no -/
def nilA (st : Sto) (a b : A) : Option Bool := match getL st a, getL st b with
  | some xs, some [] => some xs.isEmpty
  | _, _ => none
def oEqX : A → A → Sto → Res A := fun a b st => match nilA st a b with
  | some c => .ok (.bl c) st
  | none => oEq a b st
def oNeX : A → A → Sto → Res A := fun a b st => match nilA st a b with
  | some c => .ok (.bl (!c)) st
  | none => oNe a b st
theorem nilA_is {ρ : List Addr} {H : Hp} {st : Sto} {x y : V} {a b : A} {c : Bool} (rel : Rel K w ρ H st) (ra : Rv K H ρ x a) (rb : Rv K H ρ y b) (e : nilA st a b = some c) : ∃ p q vs, x = .ref p ∧ y = .ref q ∧ SqL K H p vs ∧ SqL K H q [] ∧ vs.isEmpty = c := by
  unfold nilA at e
  split at e
  · rename_i xs e1 e2
    cases e
    obtain ⟨p, vs, rfl, h1, h2⟩ := getL_sq rel ra e1
    obtain ⟨q, us, rfl, h3, h4⟩ := getL_sq rel rb e2
    cases h4
    exact ⟨p, q, vs, rfl, rfl, h1, h3, rvs_empty h2⟩
  · cases e
def rEqX (K : PySem.W.Frag) : R2 := rOr (rEqNil K) (rEqAny K)
def rNeX (K : PySem.W.Frag) : R2 := rOr (rNeNil K) (rNeAny K)
theorem dEqX (hu : X.A.units + 64 < cLine) : OpR X (compareOp .Eq) (rEqX X.K) := OpR.or (op_eqNil (by omega)) (dEq hu)
theorem dNeX (hu : X.A.units + 64 < cLine) : OpR X (compareOp .NotEq) (rNeX X.K) := OpR.or (op_neNil (by omega)) (dNe hu)
theorem r2_eqX : R2ok K w (rEqX K) oEqX := fun ρ H st x y a b Q X rel ra rb p => by
  unfold oEqX at p
  split at p
  · rename_i c e
    obtain ⟨q, q', vs, e1, e2, h1, h2, h3⟩ := nilA_is rel ra rb e
    exact .inl ⟨q, q', vs, e1, e2, h1, h2, p.give rel (by rw [h3]; exact .bl _)⟩
  · exact .inr (r2_eqA ρ H st x y a b Q X rel ra rb p)
theorem r2_neX : R2ok K w (rNeX K) oNeX := fun ρ H st x y a b Q X rel ra rb p => by
  unfold oNeX at p
  split at p
  · rename_i c e
    obtain ⟨q, q', vs, e1, e2, h1, h2, h3⟩ := nilA_is rel ra rb e
    exact .inl ⟨q, q', vs, e1, e2, h1, h2, p.give rel (by rw [h3]; exact .bl _)⟩
  · exact .inr (r2_neA ρ H st x y a b Q X rel ra rb p)
/-! len(set(xs)), xs a list of whole numbers -/
def ddup (ns : List Int) : List Int := firstMet (fun i => ns.getD i 0) ns.length
def tLenSet (K : PySem.W.Frag) (ta : TE) : TE := fun σ H Q => ta σ H fun x H1 => ∃ (l : Addr) (ns : List Int), x = V.ref l ∧ SqL K H1 l (ns.map V.int) ∧ ns.length ≤ 4000 ∧ Q (.int ((ddup ns).length : Nat)) H1
theorem pe_lenSet {a : Expr} {ta : TE} {p p2 q pos : Pos} (hc : X.calm = true) (hg : Gl X "len") (hm : X.mg "len" = none) (hg2 : Gl X "set") (hm2 : X.mg "set" = none) (ha : PE X a ta)
    (na : starEach [a] X.env = (false, eval a X.env) :: starEach [] X.env := by rfl) : PE X (.Call (.Name "len" p) [.Call (.Name "set" p2) [a] [] q] [] pos) (tLenSet X.K ta) := by
  refine ⟨fun pins s σ H Q I h => ?_⟩
  refine Call_ (ld_blt I hg hm PySem.boot_len ?_)
  refine PyProof.Rows.callWith_builtin1 (PyProof.Rows.args_cons ?_ rfl) rfl rfl
  refine Call_ (ld_blt I hg2 hm2 PyProof.Rows.boot_set ?_)
  refine PyProof.Rows.callWith_type1 (PyProof.Rows.args_cons (thn (ha.run pins s σ H _ I h) fun v s1 ⟨x, H1, I1, r1, q1⟩ => PyProof.Rows.args_nil ?_) na) na rfl
  obtain ⟨l, ns, rfl, hq, h1, q1⟩ := q1
  cases r1
  obtain ⟨its, r, pl, hz⟩ := I1.list hq
  have hl : its.toArray.size = ns.length := by rw [List.size_toArray, ← r.length, List.length_map]
  have hle := firstMet_length_le (fun i => ns.getD i 0) ns.length
  refine call_set_list (I1.ok.hd hc) pl.isList (ns := ns) (by simpa using r.ints) (by unfold scanBound; omega) fun h' tk hS hk => ?_
  rw [hl] at hS
  refine PyProof.Rows.args_nil ?_
  obtain ⟨o, es, ep, t, ho, hex, hd, _, _, _, hf, hn⟩ := hS
  have I2 : Inv X pins σ H1 { s1 with heap := h', toks := tk } := I1.kept fun b o e => hk b o (Heap.lt_size e) e
  refine call_len_set ho hex hd hf (by rw [hn] <;> omega) ⟨.int ((ddup ns).length : Nat), H1, I2.tok _, ⟨_, by rw [hn]; rfl⟩, q1⟩
def intsOf : List A → Option (List Int)
  | [] => some []
  | .int i :: xs => (intsOf xs).map (i :: ·)
  | _ => none
theorem ints_is {ρ : List Addr} {H : Hp} : ∀ {vs : List V} {xs : List A} {ns : List Int}, Rvs K H ρ vs xs → intsOf xs = some ns → vs = ns.map V.int
  | _, _, _, .nil, e => by cases e; rfl
  | _, _, _, .cons h hs, e => by
    cases h with
    | int b =>
      obtain ⟨cs, e1, rfl⟩ := Option.map_eq_some_iff.mp (show (intsOf _).map (b :: ·) = some _ from e)
      rw [ints_is hs e1]
      rfl
    | _ => cases e
def lenSetK (o : Option (List Int)) (s : Sto) : Res A := match o with
  | some ns => if ns.length ≤ 4000 then .ok (.int ((ddup ns).length : Nat)) s else .no
  | none => .no
def mLenSet (f : ME) : ME := fun env st => (f env st).bind fun a s => lenSetK ((getL s a).bind intsOf) s
theorem re_lenSet {t : TE} {f : ME} (hf : RE K w W t f) : RE K w W (tLenSet K t) (mLenSet f) := fun ρ H st σ env Q rel re p =>
  hf.use rel re p fun a s1 ρ1 H1 x e1 r1 v1 p1 => by
    unfold lenSetK at p1
    split at p1
    · rename_i ns e
      split at p1
      · rename_i hl
        obtain ⟨xs, e2, e3⟩ := Option.bind_eq_some_iff.mp e
        obtain ⟨q, us, rfl, h1, h2⟩ := getL_sq r1 v1 e2
        have := ints_is h2 e3
        subst this
        exact ⟨q, ns, rfl, h1, hl, p1.give r1 (.int _)⟩
      · exact p1.elim
    · exact p1.elim
/-! methods of texts -/
def mM0 (g : Str → Option A) (f : ME) : ME := fun env st => (f env st).bind fun a s => match a with
  | .str z => lift (g z) s
  | _ => .no
theorem re_upper {t : TE} {f : ME} (hf : RE K w W t f) : RE K w W (tM0 (fun x xs H Q => ∃ a, x = .str a ∧ xs = [] ∧ a.length ≤ 5592405 ∧ Q (.str (Txt.upper a)) H) t) (mM0 (fun z => if z.length ≤ 5592405 then some (.str (Txt.upper z)) else none) f) := fun ρ H st σ env Q rel re p =>
  hf.use rel re p fun a s1 ρ1 H1 x e1 r1 v1 p1 => by
    split at p1
    · cases v1
      simp only at p1
      split at p1
      · rename_i hl
        exact ⟨⟨_, rfl⟩, _, rfl, rfl, hl, p1.give r1 (.str _)⟩
      · exact p1.elim
    · exact p1.elim
def strsOf : List A → Option (List Str)
  | [] => some []
  | .str i :: xs => (strsOf xs).map (i :: ·)
  | _ => none
theorem strs_is {ρ : List Addr} {H : Hp} : ∀ {vs : List V} {xs : List A} {ns : List Str}, Rvs K H ρ vs xs → strsOf xs = some ns → vs = ns.map V.str
  | _, _, _, .nil, e => by cases e; rfl
  | _, _, _, .cons h hs, e => by
    cases h with
    | str b =>
      obtain ⟨cs, e1, rfl⟩ := Option.map_eq_some_iff.mp (show (strsOf _).map (b :: ·) = some _ from e)
      rw [strs_is hs e1]
      rfl
    | _ => cases e
def joinK (z : Str) (o : Option (List Str)) (s : Sto) : Res A := match o with
  | some ys => if (ys.map (·.length)).sum + ys.length * z.length ≤ 16777216 then .ok (.str (Txt.join z ys)) s else .no
  | none => .no
def joinG (g : ME) (env : AEnv) (z : A) (s1 : Sto) : Res A := match z with
  | .str z => (g env s1).bind fun a s => joinK z ((getS s a).bind strsOf) s
  | _ => .no
def mJoin (f g : ME) : ME := fun env st => (f env st).bind (joinG g env)
theorem re_join {t u : TE} {f g : ME} (hf : RE K w W t f) (hg : RE K w W u g) : RE K w W (tM1 (fun x xs H Q => ∃ a p, ∃ ys : List Str, x = .str a ∧ xs = [.ref p] ∧ (SqL K H p (ys.map V.str) ∨ SqT K H p (ys.map V.str)) ∧ (ys.map (·.length)).sum + ys.length * a.length ≤ 16777216 ∧ Q (.str (Txt.join a ys)) H) t u) (mJoin f g) := fun ρ H st σ env Q rel re p =>
  hf.use rel re p fun z s1 ρ1 H1 x e1 r1 v1 p1 => by
    unfold joinG at p1
    split at p1
    · rename_i c
      cases v1
      refine ⟨⟨_, rfl⟩, hg.use r1 (re.ext e1) p1 fun a s2 ρ2 H2 y e2 r2 v2 p2 => ?_⟩
      unfold joinK at p2
      split at p2
      · rename_i ys e
        split at p2
        · rename_i hl
          obtain ⟨xs, e3, e4⟩ := Option.bind_eq_some_iff.mp e
          obtain ⟨q, us, rfl, h1, h2⟩ := getS_sq r2 v2 e3
          have := strs_is h2 e4
          subst this
          exact ⟨c, q, ys, rfl, rfl, h1, hl, p2.give r2 (.str _)⟩
        · exact p2.elim
      · exact p2.elim
    · exact p1.elim
/-! two items of a list put at once: xs[i], ys[j] = a pair -/
def put1 (x y a : A) (s : Sto) : Option Sto := match y, getM s x with
  | .int k, some (n, xs) => (ixN xs.length k).map fun j => s.set n (.lst (xs.set j a))
  | _, _ => none
def sPut2 (f o i o' i' : ME) : MS := fun env st => (f env st).thenS env fun a s0 => match a with
  | .tup [a1, a2] => (o env s0).thenS env fun x s1 => (i env s1).thenS env fun y s2 => match put1 x y a1 s2 with
    | some s3 => (o' env s3).thenS env fun x' s4 => (i' env s4).thenS env fun y' s5 => match put1 x' y' a2 s5 with
      | some s6 => .fl (.nx env) s6
      | none => .no
    | none => .no
  | _ => .no
theorem put1_is {ρ : List Addr} {H : Hp} {s s' : Sto} {x y a : A} {vx vy va : V} {Q : Hp → Prop} (rel : Rel K w ρ H s) (hx : Rv K H ρ vx x) (hy : Rv K H ρ vy y) (ha : Rv K H ρ va a) (e : put1 x y a s = some s') (q : ∀ H', Ext ρ ρ H H' → Rel K w ρ H' s' → Q H') : L2.rSetL vx vy va H Q := by
  unfold put1 at e
  split at e
  · rename_i k n xs em
    cases hy
    obtain ⟨p, vs, rfl, hq, h1, h2⟩ := getM_is rel hx em
    obtain ⟨j, ej, rfl⟩ := Option.map_eq_some_iff.mp e
    obtain ⟨e4, r4⟩ := set_put rel hq (h2.set ha j)
    exact ⟨p, vs, k, j, rfl, rfl, h1, by rw [h2.length]; exact ej, q _ e4 r4⟩
  · cases e
theorem rs_put2 {ta to ti to' ti' : TE} {f o i o' i' : ME} (hf : RE K w W ta f) (ho : RE K w W to o) (hi : RE K w W ti i) (ho' : RE K w W to' o') (hi' : RE K w W ti' i') : RS K w W (tAsg ta (gTup K 2 (gCons (gSub to ti L2.rSetL) (gCons (gSub to' ti' L2.rSetL) gNil)))) (sPut2 f o i o' i') := fun ρ H st σ env D rel re p =>
  hf.useS rel re p fun a s1 ρ1 H1 x e1 r1 v1 p1 => by
    split at p1
    · rename_i a1 a2
      obtain ⟨q, vs, rfl, h1, h2⟩ := getT_sq v1 rfl
      obtain ⟨u1, u2, rfl, h3, h4⟩ := rvs2 h2
      refine ⟨q, _, rfl, h1, rfl, _, _, rfl, ho.useS r1 (re.ext e1) p1 fun b s2 ρ2 H2 y e2 r2 v2 p2 => hi.useS r2 (re.ext (e1.trans e2)) p2 fun c s3 ρ3 H3 z e3 r3 v3 p3 => ?_⟩
      split at p3
      · rename_i s4 e4
        refine put1_is r3 (rv_ext e3 v2) v3 (rv_ext (e2.trans e3) h3) e4 fun H4 x4 r4 => ?_
        refine ⟨_, _, rfl, ho'.useS r4 (re.ext (e1.trans (e2.trans (e3.trans x4)))) (PostS.ext p3 x4) fun b' s5 ρ5 H5 y' e5 r5 v5 p5 => hi'.useS r5 (re.ext (e1.trans (e2.trans (e3.trans (x4.trans e5))))) p5 fun c' s6 ρ6 H6 z' e6 r6 v6 p6 => ?_⟩
        split at p6
        · rename_i s7 e7
          refine put1_is r6 (rv_ext e6 v5) v6 (rv_ext (e2.trans (e3.trans (x4.trans (e5.trans e6)))) h4) e7 fun H7 x7 r7 => ?_
          exact ⟨rfl, p6 ρ6 H7 σ x7 r7 (re.ext (e1.trans (e2.trans (e3.trans (x4.trans (e5.trans (e6.trans x7)))))))⟩
        · exact p6.elim
      · exact p3.elim
    · exact p1.elim
/-! list(range(n)) -/
def mListR (f : ME) : ME := fun env st => (f env st).bind fun a s => match a with
  | .int n => if 0 ≤ n ∧ n ≤ 1000 then newO (.lst (rngA 0 n.toNat)) s else .no
  | _ => .no
theorem rvs_map {α : Type} {ρ : List Addr} {H : Hp} {f : α → V} {g : α → A} (h : ∀ x, Rv K H ρ (f x) (g x)) : ∀ l : List α, Rvs K H ρ (l.map f) (l.map g)
  | [] => .nil
  | x :: l => .cons (h x) (rvs_map h l)
theorem rgV_is {ρ : List Addr} {H : Hp} {n : Int} : Rvs K H ρ (rgV 0 n) (rngA 0 n.toNat) := by
  unfold rgV rngA
  rw [Int.sub_zero]
  exact rvs_map (fun _ => .int _) _
theorem re_listR {t : TE} {f : ME} (hf : RE K w W t f) : RE K w W (tLstRg (tRg1 t)) (mListR f) := fun ρ H st σ env Q rel re p =>
  hf.use rel re p fun a s1 ρ1 H1 x e1 r1 v1 p1 => by
    split at p1
    · rename_i n
      cases v1
      split at p1
      · rename_i hn
        exact ⟨n, rfl, ⟨by decide, by decide, by omega, by omega, by omega⟩, fun q nq => post_newL r1 rgV_is p1 q nq⟩
      · exact p1.elim
    · exact p1.elim
def oInsert : List A → List A → Option (A × List A) := fun xs as => match as with
  | [.int i, a] => if xs.length < sizeLine ∧ 0 ≤ i ∧ i < 2 ^ 63 then some (.non, xs.take i.toNat ++ [a] ++ xs.drop i.toNat) else none
  | _ => none
theorem rm_insert : RMok K (fun x vs H Q => ∃ (l : Addr) (xs : List V) (i : Int) (y : V), x = .ref l ∧ vs = [.int i, y] ∧ H l = some (.lst xs) ∧ xs.length < sizeLine ∧ 0 ≤ i ∧ i < 2 ^ 63 ∧ Q .non (upd H l (.lst (xs.take i.toNat ++ [y] ++ xs.drop i.toNat)))) oInsert := fun ρ H l xs as vs us a ys Q h1 h2 h3 e q => by
  unfold oInsert at e
  split at e
  · split at e
    · rename_i hl
      cases e
      obtain ⟨u, v, rfl, h4, h5⟩ := rvs2 h3
      cases h4
      exact ⟨l, vs, _, v, rfl, rfl, h1, by rw [h2.length]; exact hl.1, hl.2.1, hl.2.2, q _ _ .non (((h2.take _).append (.cons h5 .nil)).append (h2.drop _))⟩
    · cases e
  · cases e
end

/-! ### mirrors: how they go, further -/
section
variable {α β : Type} {a b : A} {s st : Sto} {env e : AEnv} {i j : Int} {x y : Str} {xs ys : List A}
theorem ev_sl {op : A → Option Int → Option Int → Sto → Res A} {f : ME} {l h : MO} : mSl op f l h env st = (f env st).bind fun x s1 => (l env s1).bind fun lo s2 => (h env s2).bind fun hi s3 => op x lo hi s3 := rfl
theorem ev_nopart : mNoPart env st = .ok none st := rfl
def ptK (a : A) (s : Sto) : Res (Option Int) := match a with
  | .int i => .ok (some i) s
  | _ => .no
theorem ev_part {f : ME} : mPart f env st = (f env st).bind ptK := rfl
theorem ev_ptK : ptK (.int i) s = .ok (some i) s := rfl
theorem ev_slT {lo hi : Option Int} : oSl (.tup xs) lo hi st = .ok (.tup (cutA xs lo hi)) st := rfl
theorem ev_slS {lo hi : Option Int} : oSl (.str x) lo hi st = if x.length ≤ sizeLine then .ok (.str (cutS x lo hi)) st else .no := rfl
def slK (o : Option (List A)) (lo hi : Option Int) (st : Sto) : Res A := match o with
  | some xs => newO (.lst (cutA xs lo hi)) st
  | none => .no
theorem ev_slR {n : Nat} {lo hi : Option Int} : oSl (.ref n) lo hi st = slK (getL st (.ref n)) lo hi st := rfl
theorem ev_slK {lo hi : Option Int} : slK (some xs) lo hi st = newO (.lst (cutA xs lo hi)) st := rfl
theorem ev_tyN : tyA st .non = some "NoneType" := rfl
theorem ev_tyB {c : Bool} : tyA st (.bl c) = some "bool" := rfl
theorem ev_tyI : tyA st (.int i) = some "int" := rfl
theorem ev_tyS : tyA st (.str x) = some "str" := rfl
theorem ev_tyT : tyA st (.tup xs) = some "tuple" := rfl
theorem ev_tyL : tyA st (.lit xs) = some "list" := rfl
def tyR (o : Option AO) : Option String := match o with
  | some (.lst _) => some "list"
  | _ => none
theorem ev_tyR {n : Nat} : tyA st (.ref n) = tyR st[n]? := rfl
theorem ev_tyRL : tyR (some (.lst xs)) = some "list" := rfl
def isiK (o : Option String) (T : String) (st : Sto) : Res A := match o with
  | some t => if T ∈ ["int", "bool", "str", "tuple", "list"] then .ok (.bl (isTy t T)) st else .no
  | none => .no
theorem ev_isi {T : String} : oIsi [a, .ty T] st = isiK (tyA st a) T st := rfl
theorem ev_isi1 {t : String} : isiK (some t) "int" st = .ok (.bl (isTy t "int")) st := by
  unfold isiK
  exact if_pos (by decide)
theorem ev_isi2 {t : String} : isiK (some t) "bool" st = .ok (.bl (isTy t "bool")) st := by
  unfold isiK
  exact if_pos (by decide)
theorem ev_isi3 {t : String} : isiK (some t) "str" st = .ok (.bl (isTy t "str")) st := by
  unfold isiK
  exact if_pos (by decide)
theorem ev_isi4 {t : String} : isiK (some t) "tuple" st = .ok (.bl (isTy t "tuple")) st := by
  unfold isiK
  exact if_pos (by decide)
theorem ev_isi5 {t : String} : isiK (some t) "list" st = .ok (.bl (isTy t "list")) st := by
  unfold isiK
  exact if_pos (by decide)
def isi2K (S T : String) (o : Option String) (s : Sto) : Res A := match o with
  | some t => if S ∈ ["int", "bool", "str", "tuple", "list"] ∧ T ∈ ["int", "bool", "str", "tuple", "list"] then .ok (.bl (isTy t S || isTy t T)) s else .no
  | none => .no
theorem ev_isiT {S T : String} {f : ME} : mIsiT S T f env st = (f env st).bind fun a s => isi2K S T (tyA s a) s := rfl
theorem ev_isi2K {t : String} : isi2K "tuple" "list" (some t) s = .ok (.bl (isTy t "tuple" || isTy t "list")) s := by
  unfold isi2K
  exact if_pos (by decide)
theorem ev_isTy {t T : String} : isTy t T = (t == T || (T == "int" && t == "bool")) := rfl
def listK (o : Option (List A)) (st : Sto) : Res A := match o with
  | some xs => newO (.lst xs) st
  | none => .no
theorem ev_list : oList [a] st = listK (getS st a) st := rfl
theorem ev_listK : listK (some xs) st = newO (.lst xs) st := rfl
def tupK (o : Option (List A)) (st : Sto) : Res A := match o with
  | some xs => .ok (.tup xs) st
  | none => .no
theorem ev_tuple : oTuple [a] st = tupK (getS st a) st := rfl
theorem ev_tupK : tupK (some xs) st = .ok (.tup xs) st := rfl
theorem ev_getST : getS st (.tup xs) = some xs := rfl
theorem ev_getSR {n : Nat} : getS st (.ref n) = getL st (.ref n) := rfl
theorem ev_getSL : getS st (.lit xs) = some xs := rfl
def allK (g : List Bool → Bool) (o : Option (List A)) (st : Sto) : Res A := match o with
  | some xs => lift ((bls xs).map fun bs => A.bl (g bs)) st
  | none => .no
theorem ev_all {g : List Bool → Bool} : oAll g [a] st = allK g (getL st a) st := rfl
theorem ev_allK {g : List Bool → Bool} : allK g (some xs) st = lift ((bls xs).map fun bs => A.bl (g bs)) st := rfl
theorem ev_eqXI : oEqX (.int i) (.int j) st = .ok (.bl (decide (i = j))) st := rfl
theorem ev_eqXS : oEqX (.str x) (.str y) st = .ok (.bl (decide (x = y))) st := rfl
theorem ev_neXI : oNeX (.int i) (.int j) st = .ok (.bl (!decide (i = j))) st := rfl
theorem ev_neXS : oNeX (.str x) (.str y) st = .ok (.bl (!decide (x = y))) st := rfl
theorem ev_neXB {c d : Bool} : oNeX (.bl c) (.bl d) st = .ok (.bl (!decide (c = d))) st := rfl
theorem ev_eqXB {c d : Bool} : oEqX (.bl c) (.bl d) st = .ok (.bl (decide (c = d))) st := rfl
def nil2 (o o' : Option (List A)) : Option Bool := match o, o' with
  | some xs, some [] => some xs.isEmpty
  | _, _ => none
def eqK (o : Option Bool) (a b : A) (st : Sto) : Res A := match o with
  | some c => .ok (.bl c) st
  | none => oEq a b st
def neK (o : Option Bool) (a b : A) (st : Sto) : Res A := match o with
  | some c => .ok (.bl (!c)) st
  | none => oNe a b st
theorem ev_eqXR {n m : Nat} : oEqX (.ref n) (.ref m) st = eqK (nil2 (gL st[n]?) (gL st[m]?)) (.ref n) (.ref m) st := rfl
theorem ev_neXR {n m : Nat} : oNeX (.ref n) (.ref m) st = neK (nil2 (gL st[n]?) (gL st[m]?)) (.ref n) (.ref m) st := rfl
theorem ev_nil2 : nil2 (some xs) (some []) = some xs.isEmpty := rfl
theorem ev_eqK {c : Bool} : eqK (some c) a b st = .ok (.bl c) st := rfl
theorem ev_neK {c : Bool} : neK (some c) a b st = .ok (.bl (!c)) st := rfl
def mth1 (o : Option (Nat × List A)) (k : Res A) : Res A := match o with
  | some _ => k
  | none => .no
def mth3 (o : Option (A × List A)) (n : Nat) (s : Sto) : Res A := match o with
  | some (a, ys) => .ok a (s.set n (.lst ys))
  | none => .no
def mth2 (o : Option (Nat × List A)) (op : List A → List A → Option (A × List A)) (as : List A) (s : Sto) : Res A := match o with
  | some (n, xs) => mth3 (op xs as) n s
  | none => .no
theorem ev_meth {op : List A → List A → Option (A × List A)} {f : ME} {g : MA} : mMeth op f g env st = (f env st).bind fun x s1 => mth1 (getM s1 x) ((g env s1).bind fun as s2 => mth2 (getM s2 x) op as s2) := by
  unfold mMeth
  congr 1
  funext x s1
  unfold mth1
  split <;> rename_i h
  · rw [h]
  · rw [h]
    first | rfl | congr 1
theorem ev_meth0 {op : List A → List A → Option (A × List A)} {f : ME} : mMeth0 op f env st = (f env st).bind fun x s1 => mth1 (getM s1 x) (mth2 (getM s1 x) op [] s1) := by
  unfold mMeth0
  rw [ev_meth]
  rfl
theorem ev_mth1 {q : Nat × List A} {k : Res A} : mth1 (some q) k = k := rfl
theorem ev_mth2 {n : Nat} {op : List A → List A → Option (A × List A)} {as : List A} : mth2 (some (n, xs)) op as s = mth3 (op xs as) n s := rfl
theorem ev_mth3 {n : Nat} : mth3 (some (a, ys)) n s = .ok a (s.set n (.lst ys)) := rfl
theorem ev_append : oAppend xs [a] = if xs.length < sizeLine then some (.non, xs ++ [a]) else none := rfl
def m0K (g : Str → Option A) (a : A) (s : Sto) : Res A := match a with
  | .str z => lift (g z) s
  | _ => .no
theorem ev_m0 {g : Str → Option A} {f : ME} : mM0 g f env st = (f env st).bind (m0K g) := rfl
theorem ev_m0K {g : Str → Option A} : m0K g (.str x) s = lift (g x) s := rfl
theorem ev_str : oStr [.int i] st = if i.natAbs.log2 < 1920 then .ok (.str (toString i)) st else .no := rfl
theorem ev_for {mi : MI} {g : MG} {b : MS} : sFor mi g b env st = (mi env st).thenS env fun xo s => forL xo.2 g b xo.1 env s := rfl
def okT : Sto → Prop := fun _ => True
def rg1K (as : List A) (s : Sto) : Res (List A × (Sto → Prop)) := match as with
  | [.int j] => if -(2 ^ 62) ≤ j ∧ j < 2 ^ 62 then .ok (rngA 0 j.toNat, okT) s else .no
  | _ => .no
theorem ev_miR1 {f : MA} : miR1 f env st = (f env st).bind rg1K := rfl
theorem ev_rg1K : rg1K [.int j] s = if -(2 ^ 62) ≤ j ∧ j < 2 ^ 62 then .ok (rngA 0 j.toNat, okT) s else .no := rfl
def okL (a : A) (xs : List A) : Sto → Prop := fun s' => getL s' a = some xs
def liK (a : A) (o : Option (List A)) (s : Sto) : Res (List A × (Sto → Prop)) := match o with
  | some xs => .ok (xs, fun s' => getL s' a = some xs) s
  | none => .no
theorem ev_miL {f : ME} : miL f env st = (f env st).bind fun a s => liK a (getL s a) s := rfl
theorem ev_liK : liK a (some xs) s = .ok (xs, okL a xs) s := rfl
def tiK (a : A) (s : Sto) : Res (List A × (Sto → Prop)) := match a with
  | .tup xs => .ok (xs, fun _ => True) s
  | _ => .no
theorem ev_miT {f : ME} : miT f env st = (f env st).bind tiK := rfl
theorem ev_tiK : tiK (.tup xs) s = .ok (xs, okT) s := rfl
theorem ev_lc {mi : MI} {g : MG} {tt : MT} {te : ME} {vs : List Nat} : mLc mi g tt te vs env st = (mi env st).bind fun xo s => lcL s.length xo.2 g tt te (wipeA env vs) xo.1 (s ++ [.lst []]) := rfl
theorem ev_wipe0 : wipeA env [] = env := rfl
theorem ev_wipeS {v : Nat} {vs : List Nat} : wipeA env (v :: vs) = (wipeA env vs).set v none := rfl
theorem ev_yes : mYes env st = .ok true st := rfl
theorem ev_lenSet {f : ME} : mLenSet f env st = (f env st).bind fun a s => lenSetK ((getL s a).bind intsOf) s := rfl
theorem ev_lenSetK {ns : List Int} : lenSetK (some ns) s = if ns.length ≤ 4000 then .ok (.int ((ddup ns).length : Nat)) s else .no := rfl
def lrK (a : A) (s : Sto) : Res A := match a with
  | .int n => if 0 ≤ n ∧ n ≤ 1000 then newO (.lst (rngA 0 n.toNat)) s else .no
  | _ => .no
theorem ev_listR {f : ME} : mListR f env st = (f env st).bind lrK := rfl
theorem ev_lrK : lrK (.int i) s = if 0 ≤ i ∧ i ≤ 1000 then newO (.lst (rngA 0 i.toNat)) s else .no := rfl
def pt1 (y : A) (m : Option (Nat × List A)) (a : A) (s : Sto) : Option Sto := match y, m with
  | .int k, some (n, xs) => (ixN xs.length k).map fun j => s.set n (.lst (xs.set j a))
  | _, _ => none
def p2K (o' i' : ME) (env : AEnv) (a2 : A) (r : Option Sto) : RF := match r with
  | some s3 => (o' env s3).thenS env fun x' s4 => (i' env s4).thenS env fun y' s5 => match put1 x' y' a2 s5 with
    | some s6 => .fl (.nx env) s6
    | none => .no
  | none => .no
def p2A (o i o' i' : ME) (env : AEnv) (a : A) (s0 : Sto) : RF := match a with
  | .tup [a1, a2] => (o env s0).thenS env fun x s1 => (i env s1).thenS env fun y s2 => p2K o' i' env a2 (put1 x y a1 s2)
  | _ => .no
def p2E (r : Option Sto) (env : AEnv) : RF := match r with
  | some s6 => .fl (.nx env) s6
  | none => .no
theorem ev_put2 {f o i o' i' : ME} : sPut2 f o i o' i' env st = (f env st).thenS env fun a s0 => p2A o i o' i' env a s0 := rfl
theorem ev_p2A {o i o' i' : ME} {a1 a2 : A} : p2A o i o' i' env (.tup [a1, a2]) s = (o env s).thenS env fun x s1 => (i env s1).thenS env fun y s2 => p2K o' i' env a2 (put1 x y a1 s2) := rfl
theorem ev_p2K {o' i' : ME} {a2 : A} : p2K o' i' env a2 (some s) = (o' env s).thenS env fun x' s4 => (i' env s4).thenS env fun y' s5 => p2E (put1 x' y' a2 s5) env := rfl
theorem ev_p2E : p2E (some s) env = .fl (.nx env) s := rfl
theorem ev_put1 {n : Nat} : put1 (.ref n) (.int j) a s = pt1 (.int j) (gM n s[n]?) a s := rfl
theorem ev_pt1 {n k : Nat} (h : ixN xs.length j = some k) : pt1 (.int j) (some (n, xs)) a s = some (s.set n (.lst (xs.set k a))) := by
  unfold pt1
  simp only [h]
  rfl
end

def rTupOf (K : PySem.W.Frag) : RL := fun xs H Q => ∃ p ys, xs = [.ref p] ∧ ((SqL K H p ys ∧ ∀ l, H l = none → Q (.ref l) (upd H l (.tup ys))) ∨ SqT K H p ys ∧ Q (.ref p) H)
def rListOf (K : PySem.W.Frag) : RL := fun xs H Q => ∃ p ys, xs = [.ref p] ∧ (SqL K H p ys ∨ SqT K H p ys) ∧ ∀ l, H l = none → Q (.ref l) (upd H l (.lst ys))
/-! ### mirrors: truths among numbers -/
section
variable {w : World} {W : WishX} {X : Cx}
def isBl : A → Bool
  | .bl _ => true
  | _ => false
def rBI (g : Int → Int → Int) : R2 := fun x y H Q => ∃ k j, x = .bl k ∧ y = .int j ∧ Q (.int (g (b2i k) j)) H
def oBI (g : Int → Int → Int) : A → A → Sto → Res A := fun a b st => match a, b with
  | .bl k, .int j => .ok (.int (g (b2i k) j)) st
  | _, _ => .no
theorem r2_BI {g : Int → Int → Int} : R2ok K w (rBI g) (oBI g) := fun ρ H st x y a b Q X rel ra rb p => by
  unfold oBI at p
  split at p
  · cases ra
    cases rb
    exact ⟨_, _, rfl, rfl, p.give rel (.int _)⟩
  · exact p.elim
theorem opB_add : OpR X (binaryOp .Add) (rBI fun i j => i + j) := by
  intro pins s σ H x y v u Q I rx ry h
  obtain ⟨k, j, rfl, rfl, q⟩ := h
  obtain rfl : v = Value.bool k := rx
  obtain ⟨t, rfl⟩ := ry
  exact PySem.IntBool.add_bool_int ⟨.int (b2i k + j), H, I.tok _, ⟨_, rfl⟩, q⟩
theorem opB_sub : OpR X (binaryOp .Sub) (rBI fun i j => i - j) := by
  intro pins s σ H x y v u Q I rx ry h
  obtain ⟨k, j, rfl, rfl, q⟩ := h
  obtain rfl : v = Value.bool k := rx
  obtain ⟨t, rfl⟩ := ry
  exact PySem.IntBool.sub_bool_int ⟨.int (b2i k - j), H, I.tok _, ⟨_, rfl⟩, q⟩
theorem opB_mul : OpR X (binaryOp .Mult) (rBI fun i j => i * j) := by
  intro pins s σ H x y v u Q I rx ry h
  obtain ⟨k, j, rfl, rfl, q⟩ := h
  obtain rfl : v = Value.bool k := rx
  obtain ⟨t, rfl⟩ := ry
  exact PySem.IntBool.mul_bool_int ⟨.int (b2i k * j), H, I.tok _, ⟨_, rfl⟩, q⟩
def rAddX (K : PySem.W.Frag) : R2 := rOr (rBI fun i j => i + j) (rAddD K)
theorem dAddX : OpR X (binaryOp .Add) (rAddX X.K) := OpR.or opB_add dAdd
def oAddX : A → A → Sto → Res A := oOr (fun a _ => isBl a) (oBI fun i j => i + j) oAdd
theorem r2_addX : R2ok K w (rAddX K) oAddX := r2_or r2_BI r2_add
def rSubX : R2 := rOr (rBI fun i j => i - j) rSubD
theorem dSubX : OpR X (binaryOp .Sub) rSubX := OpR.or opB_sub dSub
def oSubX : A → A → Sto → Res A := oOr (fun a _ => isBl a) (oBI fun i j => i - j) oSub
theorem r2_subX : R2ok K w rSubX oSubX := r2_or r2_BI r2_sub
def rMulX : R2 := rOr (rBI fun i j => i * j) rMulD
theorem dMulX : OpR X (binaryOp .Mult) rMulX := OpR.or opB_mul dMul
def oMulX : A → A → Sto → Res A := oOr (fun a _ => isBl a) (oBI fun i j => i * j) oMul
theorem r2_mulX : R2ok K w rMulX oMulX := r2_or r2_BI r2_mul
def rNegX : V → Hp → VK → Prop := fun x H Q => (∃ i, x = .int i ∧ Q (.int (-i)) H) ∨ ∃ k, x = .bl k ∧ Q (.int (-(b2i k))) H
theorem un_negX : UnR X (unaryOp .USub) rNegX := by
  intro pins s σ H x v Q I rx h
  rcases h with ⟨i, rfl, q⟩ | ⟨k, rfl, q⟩
  · exact un_neg pins s σ H _ v Q I rx ⟨i, rfl, q⟩
  · obtain rfl : v = Value.bool k := rx
    exact unaryOp_gives (op := .USub) (typeIs_bool' s k) rfl F.slot_bool_neg F.entry_int_neg (F.args_int_neg_1 _) (show Gives (Builtin.«int.__neg__» ⟨[.bool k], []⟩) (.int (-(b2i k))) from .of_eq rfl) ⟨.int (-(b2i k)), H, I.tok _, ⟨_, rfl⟩, q⟩
def oNegX : A → Sto → Res A := fun a st => match a with
  | .int i => .ok (.int (-i)) st
  | .bl k => .ok (.int (-(b2i k))) st
  | _ => .no
theorem r1_negX : R1ok K w rNegX oNegX := fun ρ H st x a Q X rel ra p => by
  unfold oNegX at p
  split at p
  · cases ra
    exact .inl ⟨_, rfl, p.give rel (.int _)⟩
  · cases ra
    exact .inr ⟨_, rfl, p.give rel (.int _)⟩
  · exact p.elim
def blS (k : Bool) : Str := if k then "True" else "False"
def rStrX : RL := lOr (fun xs H Q => ∃ i, xs = [.int i] ∧ i.natAbs.log2 < 1920 ∧ Q (.str (toString i)) H) (fun xs H Q => ∃ k, xs = [.bl k] ∧ Q (.str (blS k)) H)
theorem call_strX : CallR X (.type "str") rStrX := CallR.or call_str_int (by
  intro pins s σ H xs us Q I r h
  obtain ⟨k, rfl, q⟩ := h
  obtain ⟨u, rfl, ru⟩ := vals1 r
  obtain rfl : u = Value.bool k := ru
  exact PySem.P.str_of_bool ⟨.str (blS k), H, I.tok _, ⟨_, by cases k <;> rfl⟩, q⟩)
def oStrX : List A → Sto → Res A := fun as st => match as with
  | [.int i] => if i.natAbs.log2 < 1920 then .ok (.str (toString i)) st else .no
  | [.bl k] => .ok (.str (blS k)) st
  | _ => .no
theorem rl_strX : RLok K w rStrX oStrX := fun ρ H st vs as Q X rel rv p => by
  unfold oStrX at p
  split at p
  · obtain ⟨v, rfl, h⟩ := rvs1 rv
    cases h
    split at p
    · rename_i hl
      exact .inl ⟨_, rfl, hl, p.give rel (.str _)⟩
    · exact p.elim
  · obtain ⟨v, rfl, h⟩ := rvs1 rv
    cases h
    exact .inr ⟨_, rfl, p.give rel (.str _)⟩
  · exact p.elim
end
section
variable {a b : A} {st : Sto} {i j : Int} {x y : Str} {xs ys : List A} {c : Bool}
theorem ev_addXI : oAddX (.int i) (.int j) st = .ok (.int (i + j)) st := rfl
theorem ev_addXB : oAddX (.bl c) (.int j) st = .ok (.int (b2i c + j)) st := rfl
theorem ev_addXS : oAddX (.str x) (.str y) st = if decide (x.length + y.length ≤ sizeLine) = true then .ok (.str (x ++ y)) st else .no := rfl
theorem ev_addXT : oAddX (.tup xs) (.tup ys) st = if xs.length + ys.length ≤ sizeLine then .ok (.tup (xs ++ ys)) st else .no := rfl
theorem ev_addXL {n : Nat} : oAddX (.ref n) b st = catO (getM st (.ref n)) (getM st b) st := rfl
theorem ev_subXI : oSubX (.int i) (.int j) st = .ok (.int (i - j)) st := rfl
theorem ev_subXB : oSubX (.bl c) (.int j) st = .ok (.int (b2i c - j)) st := rfl
theorem ev_mulXI : oMulX (.int i) (.int j) st = if cMul i j = true then .ok (.int (i * j)) st else .no := rfl
theorem ev_mulXB : oMulX (.bl c) (.int j) st = .ok (.int (b2i c * j)) st := rfl
def repK (m : Option (Nat × List A)) (b : A) (st : Sto) : Res A := match m, b with
  | some (_, xs), .int k => if -(2 ^ 63) ≤ k ∧ k < 2 ^ 63 ∧ xs.length * k.toNat ≤ sizeLine then newO (.lst (List.replicate k.toNat xs).flatten) st else .no
  | _, _ => .no
theorem ev_mulXL {n : Nat} : oMulX (.ref n) b st = repK (getM st (.ref n)) b st := rfl
theorem ev_negXI : oNegX (.int i) st = .ok (.int (-i)) st := rfl
theorem ev_negXB : oNegX (.bl c) st = .ok (.int (-(b2i c))) st := rfl
theorem ev_strXI : oStrX [.int i] st = if i.natAbs.log2 < 1920 then .ok (.str (toString i)) st else .no := rfl
theorem ev_strXB : oStrX [.bl c] st = .ok (.str (blS c)) st := rfl
end

theorem hu1 {A : Around} {k : Nat} (hr : Room k A) : A.units + 1 < cLine := by
  have := hu65 hr
  omega
/-! ### mirrors: dicts whose keys are texts or numbers -/
section
variable {w : World} {W : WishX} {X : Cx}
def keyA : A → Option Key
  | .int i => some (.inl i)
  | .str x => some (.inr x)
  | _ => none
theorem key_is {H : Hp} {ρ : List Addr} {v : V} {a : A} {k : Key} (h : Rv K H ρ v a) (e : keyA a = some k) : v = kV k := by
  cases h <;> cases e <;> rfl
variable {κ : Type} [DecidableEq κ]
def valA (kvs : List (κ × A)) (k : κ) : Option A := (kvs.find? fun kv => decide (kv.1 = k)).map (·.2)
def putA (kvs : List (κ × A)) (k : κ) (v : A) : List (κ × A) :=
  if (kvs.any fun kv => decide (kv.1 = k)) = true then kvs.map (fun kv => if kv.1 = k then (kv.1, v) else kv) else kvs ++ [(k, v)]
def dropA (kvs : List (κ × A)) (k : κ) : List (κ × A) := kvs.filter fun kv => decide (kv.1 ≠ k)
theorem valA_is {H : Hp} {ρ : List Addr} {k : κ} : ∀ {kv : List (κ × V)} {kvs : List (κ × A)}, Rkv K H ρ kv kvs → (valA kvs k = none → valV kv k = none) ∧ ∀ a, valA kvs k = some a → ∃ v, valV kv k = some v ∧ Rv K H ρ v a
  | _, _, .nil => ⟨fun _ => rfl, fun a e => by cases e⟩
  | (k1, v1) :: kv, (k2, a2) :: kvs, .cons h hs => by
    obtain ⟨e1, e2⟩ := h
    cases (e1 : k1 = k2)
    by_cases hk : k1 = k
    · have ea : valA ((k1, a2) :: kvs) k = some a2 := by simp [valA, List.find?_cons, hk]
      refine ⟨fun z => ?_, fun a z => ?_⟩
      · rw [ea] at z
        cases z
      · rw [ea] at z
        cases z
        exact ⟨v1, valV_pos hk, e2⟩
    · have ea : valA ((k1, a2) :: kvs) k = valA kvs k := by simp [valA, List.find?_cons, hk]
      rw [ea, valV_neg hk]
      exact valA_is hs
theorem any_is {H : Hp} {ρ : List Addr} {k : κ} : ∀ {kv : List (κ × V)} {kvs : List (κ × A)}, Rkv K H ρ kv kvs → (kv.any fun q => decide (q.1 = k)) = (kvs.any fun q => decide (q.1 = k))
  | _, _, .nil => rfl
  | _ :: _, _ :: _, .cons h hs => by rw [List.any_cons, List.any_cons, any_is hs, h.1]
theorem map_is {H : Hp} {ρ : List Addr} {k : κ} {v : V} {a : A} (r : Rv K H ρ v a) : ∀ {kv : List (κ × V)} {kvs : List (κ × A)}, Rkv K H ρ kv kvs → Rkv K H ρ (kv.map fun q => if q.1 = k then (q.1, v) else q) (kvs.map fun q => if q.1 = k then (q.1, a) else q)
  | _, _, .nil => .nil
  | p :: _, q :: _, .cons h hs => by
    refine .cons ?_ (map_is r hs)
    show (if p.1 = k then (p.1, v) else p).1 = (if q.1 = k then (q.1, a) else q).1 ∧ Rv K H ρ (if p.1 = k then (p.1, v) else p).2 (if q.1 = k then (q.1, a) else q).2
    by_cases hk : p.1 = k
    · rw [if_pos hk, if_pos (h.1 ▸ hk)]
      exact ⟨h.1, r⟩
    · rw [if_neg hk, if_neg (h.1 ▸ hk)]
      exact h
theorem app_is {H : Hp} {ρ : List Addr} {k : κ} {v : V} {a : A} (r : Rv K H ρ v a) : ∀ {kv : List (κ × V)} {kvs : List (κ × A)}, Rkv K H ρ kv kvs → Rkv K H ρ (kv ++ [(k, v)]) (kvs ++ [(k, a)])
  | _, _, .nil => .cons ⟨rfl, r⟩ .nil
  | _ :: _, _ :: _, .cons h hs => .cons h (app_is r hs)
theorem putA_is {H : Hp} {ρ : List Addr} {k : κ} {v : V} {a : A} {kv : List (κ × V)} {kvs : List (κ × A)} (r : Rv K H ρ v a) (h : Rkv K H ρ kv kvs) : Rkv K H ρ (putK kv k v) (putA kvs k a) := by
  unfold putK putA
  rw [any_is h]
  split
  · exact map_is r h
  · exact app_is r h
theorem dropA_is {H : Hp} {ρ : List Addr} {k : κ} : ∀ {kv : List (κ × V)} {kvs : List (κ × A)}, Rkv K H ρ kv kvs → Rkv K H ρ (dropK kv k) (dropA kvs k)
  | _, _, .nil => .nil
  | p :: kv, q :: kvs, .cons h hs => by
    have ih := dropA_is (k := k) hs
    unfold dropK dropA at ih ⊢
    rw [List.filter_cons, List.filter_cons, h.1]
    split
    · exact .cons h ih
    · exact ih
theorem kv_len {H : Hp} {ρ : List Addr} : ∀ {kv : List (κ × V)} {kvs : List (κ × A)}, Rkv K H ρ kv kvs → kv.length = kvs.length
  | _, _, .nil => rfl
  | _ :: _, _ :: _, .cons _ hs => by rw [List.length_cons, List.length_cons, kv_len hs]
/-- the dict that a value tells -/
def gD (n : Nat) (o : Option AO) : Option (Nat × List (Key × A)) := match o with
  | some (.dK kvs) => some (n, kvs)
  | _ => none
def getD (st : Sto) : A → Option (Nat × List (Key × A))
  | .ref n => gD n st[n]?
  | _ => none
theorem getD_is {ρ : List Addr} {H : Hp} {st : Sto} {v : V} {a : A} {n : Nat} {kvs : List (Key × A)} (rel : Rel K w ρ H st) (h : Rv K H ρ v a) (e : getD st a = some (n, kvs)) : ∃ p kv, v = .ref p ∧ ρ[n]? = some p ∧ H p = some (.dK kv) ∧ Rkv K H ρ kv kvs := by
  cases h with
  | ref h =>
    rename_i m p
    have e : gD m st[m]? = some (n, kvs) := e
    unfold gD at e
    split at e
    · rename_i kvs' e'
      cases e
      obtain ⟨kv, h1, h2⟩ := rel.get h e'
      exact ⟨_, kv, rfl, h, h1, h2⟩
    · cases e
  | _ => cases e
/-! {}, d[k], k in d, d[k] = v, d.get(k, x), d.pop(k, x) -/
def mDNew : ME := fun _ st => newO (.dK []) st
theorem re_dnew : RE K w W tDNewK mDNew := fun ρ H st σ env Q rel re p q nq => by
  obtain ⟨e, r⟩ := rel.new (o := .dK []) (u := .dK []) nq fun H' e' h' => ⟨[], h', .nil⟩
  exact p.giveAt e r (.ref (rel.last q))
def dgK (o : Option (Nat × List (Key × A))) (k : Option Key) (s : Sto) : Res A := match o, k with
  | some (_, kvs), some k => lift (valA kvs k) s
  | _, _ => .no
def mDGet (f g : ME) : ME := fun env st => (f env st).bind fun x s1 => (g env s1).bind fun y s2 => dgK (getD s2 x) (keyA y) s2
theorem re_dget {td ty : TE} {f g : ME} (hf : RE K w W td f) (hg : RE K w W ty g) : RE K w W (tDGet td ty) (mDGet f g) := fun ρ H st σ env Q rel re p =>
  hf.use rel re p fun a s1 ρ1 H1 x e1 r1 v1 p1 => hg.use r1 (re.ext e1) p1 fun b s2 ρ2 H2 y e2 r2 v2 p2 => by
    unfold dgK at p2
    split at p2
    · rename_i n kvs k em ek
      obtain ⟨q, kv, rfl, hq, h1, h2⟩ := getD_is r2 (rv_ext e2 v1) em
      cases ev : valA kvs k with
      | none =>
        rw [ev] at p2
        exact p2.elim
      | some c =>
        rw [ev] at p2
        obtain ⟨v, e3, r3⟩ := (valA_is h2).2 c ev
        cases key_is v2 ek
        exact ⟨q, v, rfl, e3 ▸ DGet.k h1, p2.give r2 r3⟩
    · exact p2.elim
def diK (neg : Bool) (o : Option (Nat × List (Key × A))) (k : Option Key) (s : Sto) : Res A := match o, k with
  | some (_, kvs), some k => .ok (.bl ((valA kvs k).isSome != neg)) s
  | _, _ => .no
def mDIn (neg : Bool) (f g : ME) : ME := fun env st => (f env st).bind fun y s1 => (g env s1).bind fun x s2 => diK neg (getD s2 x) (keyA y) s2
theorem isSome_is {H : Hp} {ρ : List Addr} {k : κ} {kv : List (κ × V)} {kvs : List (κ × A)} (h : Rkv K H ρ kv kvs) : (valV kv k).isSome = (valA kvs k).isSome := by
  cases e : valA kvs k with
  | none => rw [(valA_is h).1 e]; rfl
  | some c =>
    obtain ⟨v, e3, _⟩ := (valA_is h).2 c e
    rw [e3]
    rfl
theorem re_din {ty td : TE} {f g : ME} (hf : RE K w W ty f) (hg : RE K w W td g) : RE K w W (tDIn ty td) (mDIn false f g) := fun ρ H st σ env Q rel re p =>
  hf.use rel re p fun a s1 ρ1 H1 x e1 r1 v1 p1 => hg.use r1 (re.ext e1) p1 fun b s2 ρ2 H2 y e2 r2 v2 p2 => by
    unfold diK at p2
    split at p2
    · rename_i n kvs k em ek
      obtain ⟨q, kv, rfl, hq, h1, h2⟩ := getD_is r2 v2 em
      cases key_is v1 ek
      exact ⟨q, valV kv k, rfl, DGet.k h1, by
        rw [isSome_is h2]
        have := p2.give r2 (.bl _)
        rw [Bool.bne_false] at this
        exact this⟩
    · exact p2.elim
theorem re_dnotin {ty td : TE} {f g : ME} (hf : RE K w W ty f) (hg : RE K w W td g) : RE K w W (tDNotIn ty td) (mDIn true f g) := fun ρ H st σ env Q rel re p =>
  hf.use rel re p fun a s1 ρ1 H1 x e1 r1 v1 p1 => hg.use r1 (re.ext e1) p1 fun b s2 ρ2 H2 y e2 r2 v2 p2 => by
    unfold diK at p2
    split at p2
    · rename_i n kvs k em ek
      obtain ⟨q, kv, rfl, hq, h1, h2⟩ := getD_is r2 v2 em
      cases key_is v1 ek
      exact ⟨q, valV kv k, rfl, DGet.k h1, by
        rw [isSome_is h2]
        have := p2.give r2 (.bl _)
        rw [Bool.bne_true] at this
        exact this⟩
    · exact p2.elim
def dpK (o : Option (Nat × List (Key × A))) (k : Option Key) (v : A) (env : AEnv) (s : Sto) : RF := match o, k with
  | some (n, kvs), some k => if kvs.length < sizeLine then .fl (.nx env) (s.set n (.dK (putA kvs k v))) else .no
  | _, _ => .no
def sDPutM (f g h : ME) : MS := fun env st => (h env st).thenS env fun v s1 => (f env s1).thenS env fun x s2 => (g env s2).thenS env fun y s3 => dpK (getD s3 x) (keyA y) v env s3
theorem rs_dput {td ty tv : TE} {f g h : ME} (hf : RE K w W td f) (hg : RE K w W ty g) (hh : RE K w W tv h) : RS K w W (sDPut td ty tv) (sDPutM f g h) := fun ρ H st σ env D rel re p =>
  hh.useS rel re p fun a s1 ρ1 H1 x e1 r1 v1 p1 => hf.useS r1 (re.ext e1) p1 fun b s2 ρ2 H2 y e2 r2 v2 p2 => hg.useS r2 (re.ext (e1.trans e2)) p2 fun c s3 ρ3 H3 z e3 r3 v3 p3 => by
    unfold dpK at p3
    split at p3
    · rename_i n kvs k em ek
      obtain ⟨q, kv, rfl, hq, h1, h2⟩ := getD_is r3 (rv_ext e3 v2) em
      cases key_is v3 ek
      split at p3
      · rename_i hl
        have hv := rv_ext (e2.trans e3) v1
        obtain ⟨e4, r4⟩ := r3.put (o := .dK (putA kvs k a)) (u := .dK (putK kv k x)) hq fun H' e' h' => ⟨_, h', rkv_ext e' (putA_is hv h2)⟩
        exact ⟨q, _, rfl, DPut.k h1 (by rw [kv_len h2]; exact hl), p3 ρ3 _ σ e4 r4 (re.ext (e1.trans (e2.trans (e3.trans e4))))⟩
      · exact p3.elim
    · exact p3.elim
def oD : AO → Bool
  | .dK _ => true
  | _ => false
def isDA (st : Sto) (a : A) : Bool := (getD st a).isSome
theorem isD_is {ρ : List Addr} {H : Hp} {st : Sto} {v : V} {a : A} (rel : Rel K w ρ H st) (h : Rv K H ρ v a) (e : isDA st a = true) : ∃ p, v = .ref p ∧ IsD H p := by
  unfold isDA at e
  obtain ⟨⟨n, kvs⟩, e⟩ := Option.isSome_iff_exists.mp e
  obtain ⟨p, kv, rfl, _, h1, _⟩ := getD_is rel h e
  exact ⟨p, rfl, .inl ⟨kv, .inl h1⟩⟩
def dg2K (o : Option (Nat × List (Key × A))) (k : Option Key) (z : A) (s : Sto) : Res A := match o, k with
  | some (_, kvs), some k => .ok ((valA kvs k).getD z) s
  | _, _ => .no
/-- d.get(k, x); d.get(k) with None for x -/
def mDGet2 (f g h : ME) : ME := fun env st => (f env st).bind fun x s1 => if isDA s1 x = true then (g env s1).bind fun y s2 => (h env s2).bind fun z s3 => dg2K (getD s3 x) (keyA y) z s3 else .no
theorem re_dget2 {td ty tx : TE} {f g h : ME} (hf : RE K w W td f) (hg : RE K w W ty g) (hh : RE K w W tx h) : RE K w W (tDGet2 td ty tx) (mDGet2 f g h) := fun ρ H st σ env Q rel re p =>
  hf.use rel re p fun a s1 ρ1 H1 x e1 r1 v1 p1 => by
    split at p1
    · rename_i hd
      obtain ⟨q, rfl, hq⟩ := isD_is r1 v1 hd
      refine ⟨q, rfl, hq, hg.use r1 (re.ext e1) p1 fun b s2 ρ2 H2 y e2 r2 v2 p2 => hh.use r2 (re.ext (e1.trans e2)) p2 fun c s3 ρ3 H3 z e3 r3 v3 p3 => ?_⟩
      unfold dg2K at p3
      split at p3
      · rename_i n kvs k em ek
        obtain ⟨q', kv, eq, hq', h1, h2⟩ := getD_is r3 (rv_ext (e2.trans e3) v1) em
        cases eq
        cases key_is v2 ek
        refine ⟨valV kv k, DGet.k h1, ?_⟩
        cases ev : valA kvs k with
        | none =>
          rw [ev] at p3
          rw [(valA_is h2).1 ev]
          exact p3.give r3 v3
        | some d =>
          rw [ev] at p3
          obtain ⟨v, e4, r4⟩ := (valA_is h2).2 d ev
          rw [e4]
          exact p3.give r3 r4
      · exact p3.elim
    · exact p1.elim
theorem re_dget1 {td ty : TE} {f g : ME} (hf : RE K w W td f) (hg : RE K w W ty g) : RE K w W (tDGet1 td ty) (mDGet2 f g (mC .non)) := fun ρ H st σ env Q rel re p =>
  hf.use rel re p fun a s1 ρ1 H1 x e1 r1 v1 p1 => by
    split at p1
    · rename_i hd
      obtain ⟨q, rfl, hq⟩ := isD_is r1 v1 hd
      refine ⟨q, rfl, hq, hg.use r1 (re.ext e1) p1 fun b s2 ρ2 H2 y e2 r2 v2 p3 => ?_⟩
      have p3 : Post K w ρ2 H2 (dg2K (getD s2 a) (keyA b) .non s2) _ _ := p3
      unfold dg2K at p3
      split at p3
      · rename_i n kvs k em ek
        obtain ⟨q', kv, eq, hq', h1, h2⟩ := getD_is r2 (rv_ext e2 v1) em
        cases eq
        cases key_is v2 ek
        refine ⟨valV kv k, DGet.k h1, ?_⟩
        cases ev : valA kvs k with
        | none =>
          rw [ev] at p3
          rw [(valA_is h2).1 ev]
          exact p3.give r2 .non
        | some d =>
          rw [ev] at p3
          obtain ⟨v, e4, r4⟩ := (valA_is h2).2 d ev
          rw [e4]
          exact p3.give r2 r4
      · exact p3.elim
    · exact p1.elim
def dp2K (o : Option (Nat × List (Key × A))) (k : Option Key) (z : A) (s : Sto) : Res A := match o, k with
  | some (n, kvs), some k => match valA kvs k with
    | some v => .ok v (s.set n (.dK (dropA kvs k)))
    | none => .ok z s
  | _, _ => .no
/-- d.pop(k, x) -/
def mDPop2 (f g h : ME) : ME := fun env st => (f env st).bind fun x s1 => if isDA s1 x = true then (g env s1).bind fun y s2 => (h env s2).bind fun z s3 => dp2K (getD s3 x) (keyA y) z s3 else .no
theorem re_dpop2 {td ty tx : TE} {f g h : ME} (hf : RE K w W td f) (hg : RE K w W ty g) (hh : RE K w W tx h) : RE K w W (tDPop2 td ty tx) (mDPop2 f g h) := fun ρ H st σ env Q rel re p =>
  hf.use rel re p fun a s1 ρ1 H1 x e1 r1 v1 p1 => by
    split at p1
    · rename_i hd
      obtain ⟨q, rfl, hq⟩ := isD_is r1 v1 hd
      refine ⟨q, rfl, hq, hg.use r1 (re.ext e1) p1 fun b s2 ρ2 H2 y e2 r2 v2 p2 => hh.use r2 (re.ext (e1.trans e2)) p2 fun c s3 ρ3 H3 z e3 r3 v3 p3 => ?_⟩
      unfold dp2K at p3
      split at p3
      · rename_i n kvs k em ek
        obtain ⟨q', kv, eq, hq', h1, h2⟩ := getD_is r3 (rv_ext (e2.trans e3) v1) em
        cases eq
        cases key_is v2 ek
        refine ⟨kv, k, h1, rfl, fun v ev => ?_, fun ev => ?_⟩
        · cases ea : valA kvs k with
          | none =>
            rw [(valA_is h2).1 ea] at ev
            cases ev
          | some d =>
            rw [ea] at p3
            obtain ⟨v', e4, r4⟩ := (valA_is h2).2 d ea
            rw [e4] at ev
            cases ev
            obtain ⟨e5, r5⟩ := r3.put (o := .dK (dropA kvs k)) (u := .dK (dropK kv k)) hq' fun H' e' h' => ⟨_, h', rkv_ext e' (dropA_is h2)⟩
            exact p3.giveAt e5 r5 (rv_ext e5 r4)
        · cases ea : valA kvs k with
          | none =>
            rw [ea] at p3
            exact p3.give r3 v3
          | some d =>
            obtain ⟨v', e4, r4⟩ := (valA_is h2).2 d ea
            rw [e4] at ev
            cases ev
      · exact p3.elim
    · exact p1.elim
end

/-! ### mirrors: sorted() of texts or numbers, of a list or a dict's keys -/
section
variable {w : World} {W : WishX} {X : Cx}
def leS (x y : Str) : Bool := !decide (y.cps.toList < x.cps.toList)
theorem leS_iff {x y : Str} : leS x y = true ↔ x.cps.toList ≤ y.cps.toList := by
  unfold leS
  rw [Bool.not_eq_true', decide_eq_false_iff_not]
  exact Iff.rfl
theorem leS_trans (x y z : Str) (h : leS x y = true) (g : leS y z = true) : leS x z = true := leS_iff.mpr (List.le_trans (leS_iff.mp h) (leS_iff.mp g))
theorem leS_total (x y : Str) : (leS x y || leS y x) = true := by
  rw [Bool.or_eq_true, leS_iff, leS_iff]
  exact List.le_total ..
theorem leS_anti {x y : Str} (h : leS x y = true) (g : leS y x = true) : x = y := by
  have := List.le_antisymm (leS_iff.mp h) (leS_iff.mp g)
  cases x
  cases y
  simp only at this
  rw [Array.toList_inj.mp this]
theorem rising_all : ∀ {r : List Str} {p : Str}, risingS p r = true → (p :: r).Pairwise (fun x y => leS x y = true)
  | [], p, _ => List.pairwise_cons.mpr ⟨(fun _ h => nomatch h), List.Pairwise.nil⟩
  | x :: r, p, h => by
    unfold risingS at h
    rw [Bool.and_eq_true, ltCps_eq] at h
    have ih := rising_all h.2
    refine List.pairwise_cons.mpr ⟨fun y hy => ?_, ih⟩
    have h1 : leS p x = true := h.1
    rcases List.mem_cons.mp hy with rfl | hy
    · exact h1
    · exact leS_trans _ _ _ h1 ((List.pairwise_cons.mp ih).1 y hy)
def sortS (xs : List Str) : List Str := xs.mergeSort leS
theorem sortS_is {xs ys : List Str} (hp : ys.Perm xs) (h : sortedS ys = true) : ys = sortS xs := by
  refine List.Perm.eq_of_pairwise (le := fun x y => leS x y = true) (fun a b _ _ h g => leS_anti h g) ?_ (List.pairwise_mergeSort leS_trans leS_total xs) (hp.trans (List.mergeSort_perm xs leS).symm)
  cases ys with
  | nil => exact .nil
  | cons y r => exact rising_all h
def leI (i j : Int) : Bool := decide (i ≤ j)
def sortI (xs : List Int) : List Int := xs.mergeSort leI
theorem sortI_is {xs ys : List Int} (hp : ys.Perm xs) (h : ys.Pairwise (· ≤ ·)) : ys = sortI xs := by
  refine List.Perm.eq_of_pairwise (le := fun x y => leI x y = true) (fun a b _ _ h g => by unfold leI at h g; rw [decide_eq_true_eq] at h g; omega) (h.imp fun h => decide_eq_true h) (List.pairwise_mergeSort (fun a b c h g => by unfold leI at *; rw [decide_eq_true_eq] at *; omega) (fun a b => by unfold leI; rw [Bool.or_eq_true, decide_eq_true_eq, decide_eq_true_eq]; omega) xs) (hp.trans (List.mergeSort_perm xs leI).symm)
def keyI : List (Key × A) → Option (List Int)
  | [] => some []
  | (.inl i, _) :: xs => (keyI xs).map (i :: ·)
  | _ => none
def keyS : List (Key × A) → Option (List Str)
  | [] => some []
  | (.inr i, _) :: xs => (keyS xs).map (i :: ·)
  | _ => none
theorem keyS_is {ρ : List Addr} {H : Hp} : ∀ {kv : List (Key × V)} {kvs : List (Key × A)} {ns : List Str}, Rkv K H ρ kv kvs → keyS kvs = some ns → kv.map (·.1) = ns.map Sum.inr
  | _, _, _, .nil, e => by cases e; rfl
  | (k1, v1) :: kv, (k2, a2) :: kvs, _, .cons h hs, e => by
    obtain ⟨e1, _⟩ := h
    cases (e1 : k1 = k2)
    cases k1 with
    | inl i => cases e
    | inr x =>
      obtain ⟨cs, e1, rfl⟩ := Option.map_eq_some_iff.mp (show (keyS _).map (x :: ·) = some _ from e)
      rw [List.map_cons, keyS_is hs e1]
      rfl
theorem keyI_is {ρ : List Addr} {H : Hp} : ∀ {kv : List (Key × V)} {kvs : List (Key × A)} {ns : List Int}, Rkv K H ρ kv kvs → keyI kvs = some ns → kv.map (·.1) = ns.map Sum.inl
  | _, _, _, .nil, e => by cases e; rfl
  | (k1, v1) :: kv, (k2, a2) :: kvs, _, .cons h hs, e => by
    obtain ⟨e1, _⟩ := h
    cases (e1 : k1 = k2)
    cases k1 with
    | inr i => cases e
    | inl x =>
      obtain ⟨cs, e1, rfl⟩ := Option.map_eq_some_iff.mp (show (keyI _).map (x :: ·) = some _ from e)
      rw [List.map_cons, keyI_is hs e1]
      rfl
def srK (os : Option (List Str)) (oi : Option (List Int)) (st : Sto) : Res A := match os, oi with
  | some xs, _ => if xs.length < 64 then newO (.lst ((sortS xs).map A.str)) st else .no
  | none, some ns => if ns.length < 64 then newO (.lst ((sortI ns).map A.int)) st else .no
  | none, none => .no
def srO (o : Option (List A)) (d : Option (Nat × List (Key × A))) (st : Sto) : Res A := match o, d with
  | some xs, _ => srK (strsOf xs) (intsOf xs) st
  | none, some (_, kvs) => srK (keyS kvs) (keyI kvs) st
  | none, none => .no
def oSorted : List A → Sto → Res A := fun as st => match as with
  | [a] => srO (getL st a) (getD st a) st
  | _ => .no
def rSortDS : RL := fun xs H Q => ∃ (a : Addr) (kvs : List (Key × V)) (ks : List Str), xs = [.ref a] ∧ Rd H a (.dK kvs) ∧ kvs.map (·.1) = ks.map Sum.inr ∧ ks.length < 64 ∧
    ∀ ys p, ys.Perm ks → sortedS ys = true → H p = none → Q (.ref p) (upd H p (.lst (ys.map V.str)))
def rSortDI : RL := fun xs H Q => ∃ (a : Addr) (kvs : List (Key × V)) (ks : List Int), xs = [.ref a] ∧ Rd H a (.dK kvs) ∧ kvs.map (·.1) = ks.map Sum.inl ∧ ks.length < 64 ∧
    ∀ (ys : List Int) (p : Addr), ys.Perm ks → ys.Pairwise (· ≤ ·) → H p = none → Q (.ref p) (upd H p (.lst (ys.map V.int)))
def rSortX (K : PySem.W.Frag) : RL := lOr (rSortedS K) (lOr (rSorted K) (lOr rSortDS rSortDI))
theorem call_sortX (hc : X.calm = true) : CallR X (.builtin "sorted") (rSortX X.K) := CallR.or cr_sortedS (CallR.or cr_sorted (CallR.or (call_sortedD hc) (call_sortedDI hc)))
theorem rl_sorted : RLok K w (rSortX K) oSorted := fun ρ H st vs as Q X rel rv p => by
  unfold oSorted at p
  split at p
  · rename_i a
    obtain ⟨v, rfl, h⟩ := rvs1 rv
    unfold srO at p
    split at p
    · rename_i xs eo
      obtain ⟨q, us, rfl, hq, hr⟩ := getL_sq rel h eo
      unfold srK at p
      split at p
      · rename_i ii ss es
        cases strs_is hr es
        split at p
        · rename_i hl
          exact .inl ⟨q, ss, rfl, hq, hl, fun ys r hp hs nr => by
            rw [sortS_is hp hs]
            exact post_newL rel (Rvs.strs _) p r nr⟩
        · exact p.elim
      · rename_i ns es ei
        cases ints_is hr ei
        split at p
        · rename_i hl
          exact .inr (.inl ⟨q, ns, rfl, hq, hl, fun ys r hp hs nr => by
            rw [sortI_is hp hs]
            exact post_newL rel (Rvs.ints _) p r nr⟩)
        · exact p.elim
      · exact p.elim
    · rename_i n kvs eo ed
      obtain ⟨q, kv, rfl, hq, h1, h2⟩ := getD_is rel h ed
      unfold srK at p
      split at p
      · rename_i ii ss es
        split at p
        · rename_i hl
          exact .inr (.inr (.inl ⟨q, kv, ss, rfl, .inl h1, keyS_is h2 es, hl, fun ys r hp hs nr => by
            rw [sortS_is hp hs]
            exact post_newL rel (Rvs.strs _) p r nr⟩))
        · exact p.elim
      · rename_i ns es ei
        split at p
        · rename_i hl
          exact .inr (.inr (.inr ⟨q, kv, ns, rfl, .inl h1, keyI_is h2 ei, hl, fun ys r hp hs nr => by
            rw [sortI_is hp hs]
            exact post_newL rel (Rvs.ints _) p r nr⟩))
        · exact p.elim
      · exact p.elim
    · exact p.elim
  · exact p.elim
end

/-! ### mirrors: comprehensions of two clauses -/
section
variable {w : World} {W : WishX}
theorem wipe_wipe {σ : L2.St} {vs : List Nat} : L2.wipe (L2.wipe σ vs) vs = L2.wipe σ vs := by
  have : ∀ us : List Nat, (∀ u ∈ us, u ∈ vs) → L2.wipe (L2.wipe σ us) vs = L2.wipe σ vs := fun us => by
    induction us with
    | nil => intro _; rfl
    | cons u us ih =>
      intro hu
      show L2.wipe ((L2.wipe σ us).set u none) vs = L2.wipe σ vs
      rw [wipe_set (hu u List.mem_cons_self), ih fun z hz => hu z (List.mem_cons_of_mem _ hz)]
  exact this vs fun _ h => h
open Classical in
noncomputable def lcI (n : Nat) (ok : Sto → Prop) (g : MG) (tt : MT) (te : ME) (env : AEnv) (go : Sto → Res A) : List A → Sto → Res A
  | [], st => if ok st then go st else .no
  | x :: xs, st => if ok st then (match g x env with
    | some e1 => (noX (tt e1 st)).bind fun k s1 => if k = true then (noX (te e1 s1)).bind fun y s2 => (match s2[n]? with
      | some (.lst acc) => if acc.length < sizeLine then lcI n ok g tt te env go xs (s2.set n (.lst (acc ++ [y]))) else .no
      | _ => .no) else lcI n ok g tt te env go xs s1
    | none => .no) else .no
open Classical in
noncomputable def lc2L (n : Nat) (ok : Sto → Prop) (g : MG) (tt : MT) (mi1 : MI) (g1 : MG) (tt1 : MT) (te : ME) (env : AEnv) (vs1 : List Nat) : List A → Sto → Res A
  | [], st => if ok st then .ok (.ref n) st else .no
  | x :: xs, st => if ok st then (match g x env with
    | some e1 => (noX (tt e1 st)).bind fun k s1 => if k = true then (noX (mi1 e1 s1)).bind fun xo s2 => lcI n xo.2 g1 tt1 te (wipeA e1 vs1) (fun s => lc2L n ok g tt mi1 g1 tt1 te env vs1 xs s) xo.1 s2 else lc2L n ok g tt mi1 g1 tt1 te env vs1 xs s1
    | none => .no) else .no
noncomputable def mLc2 (mi : MI) (g : MG) (tt : MT) (mi1 : MI) (g1 : MG) (tt1 : MT) (te : ME) (vs vs1 : List Nat) : ME := fun env st => (mi env st).bind fun xo s => lc2L s.length xo.2 g tt mi1 g1 tt1 te (wipeA env vs) vs1 xo.1 (s ++ [.lst []])
theorem re_lc2 {wi wi1 : TI} {g g1 : TG} {tt tt1 : TT} {te : TE} {mi mi1 : MI} {m m1 : MG} {ft ft1 : MT} {fe : ME} {vs vs1 : List Nat} (hi : RI K w W wi mi) (hg : RGn K g m vs) (ht : RT K w WF tt ft) (hi1 : RI K w WF wi1 mi1) (hg1 : RGn K g1 m1 vs1) (ht1 : RT K w WF tt1 ft1) (he : RE K w WF te fe) :
    RE K w W (tLc2 wi g tt wi1 g1 tt1 te vs vs1) (mLc2 mi m ft mi1 m1 ft1 fe vs vs1) := fun ρ H st σ env Q rel re p => by
  have p : Post K w ρ H ((mi env st).bind fun xo s => lc2L s.length xo.2 m ft mi1 m1 ft1 fe (wipeA env vs) vs1 xo.1 (s ++ [.lst []])) (fun a _ ρ' H' => ∀ v, Rv K H' ρ' v a → Q v H') (W · · σ ·) := p
  refine hi ρ H st σ env _ rel re ?_
  cases e : mi env st with
  | no => rw [e] at p; exact p
  | ex c d s1 => rw [e] at p; exact p
  | ok xo s1 =>
    rw [e] at p
    obtain ⟨xs, ok⟩ := xo
    intro ρ1 H1 e1 r1 J hJ D nD
    obtain ⟨e2, r2⟩ := r1.new (o := .lst []) (u := .lst []) nD fun H' e' h' => ⟨[], h', .nil⟩
    have hD := r1.last D
    have p1 : Post K w (ρ1 ++ [D]) (upd H1 D (.lst [])) (lc2L s1.length ok m ft mi1 m1 ft1 fe (wipeA env vs) vs1 xs (s1 ++ [.lst []])) (fun a _ ρ' H' => ∀ v, Rv K H' ρ' v a → Q v H') (W · · σ ·) := Post.ext p (e1.trans e2)
    refine ⟨fun i n H2 => n = xs.length - i ∧ i ≤ xs.length ∧ ∃ ρ2 s2, Ext (ρ1 ++ [D]) ρ2 (upd H1 D (.lst [])) H2 ∧ Rel K w ρ2 H2 s2 ∧ Post K w ρ2 H2 (lc2L s1.length ok m ft mi1 m1 ft1 fe (wipeA env vs) vs1 (xs.drop i) s2) (fun a _ ρ' H' => ∀ v, Rv K H' ρ' v a → Q v H') (W · · σ ·), ⟨_, rfl, Nat.zero_le _, _, _, Ext.refl _ _, r2, by rw [List.drop_zero]; exact p1⟩, ?_⟩
    rintro i n H2 ⟨rfl, hi2, ρ2, s2, e3, r3, p2⟩
    have e13 := e2.trans e3
    by_cases lt : i < xs.length
    · have ea : xs[i]? = some xs[i] := List.getElem?_eq_getElem lt
      rw [List.drop_eq_getElem_cons lt] at p2
      unfold lc2L at p2
      split at p2
      · rename_i hok
        obtain ⟨hgo, hy⟩ := hJ.go i _ ρ2 H2 s2 e13 r3 hok ea
        refine .inr ⟨hgo, fun H' => ∃ ρ3 s3, Ext (ρ1 ++ [D]) ρ3 (upd H1 D (.lst [])) H' ∧ Rel K w ρ3 H' s3 ∧ Post K w ρ3 H' (lc2L s1.length ok m ft mi1 m1 ft1 fe (wipeA env vs) vs1 (xs.drop (i + 1)) s3) (fun a _ ρ' H' => ∀ v, Rv K H' ρ' v a → Q v H') (W · · σ ·), fun H' hN => ⟨xs.length - (i + 1), by omega, rfl, lt, hN⟩, fun x H' yl => ?_⟩
        obtain ⟨sm, hx⟩ := hy x H' yl
        have e4 : Ext ρ2 ρ2 H2 H' := Ext.same sm
        have r4 := r3.same sm
        refine hg H' ρ2 (L2.wipe σ vs) (wipeA env vs) x _ _ ((re.ext (e1.trans (e13.trans e4))).wipe vs) hx ?_
        cases em : m xs[i] (wipeA env vs) with
        | none => rw [em] at p2; exact p2
        | some env3 =>
          rw [em] at p2
          intro σ3 re3 wp
          refine ⟨wp.trans wipe_wipe, ht ρ2 H' s2 σ3 env3 _ r4 re3 (noX_use (Post.ext p2 e4) fun k s5 ρ5 H5 e5 r5 p5 => ?_)⟩
          cases k with
          | false =>
            refine iteF ⟨ρ5, s5, e3.trans (e4.trans e5), r5, p5⟩
          | true =>
            refine iteT (hi1 ρ5 H5 s5 σ3 env3 _ r5 (re3.ext e5) (noX_use p5 fun yo s6 ρ6 H6 e6 r6 p6 J1 hJ1 => ?_))
            obtain ⟨ys, ok1⟩ := yo
            have E6 := e3.trans (e4.trans (e5.trans e6))
            refine ⟨fun j k H7 => k = ys.length - j ∧ j ≤ ys.length ∧ ∃ ρ7 s7, Ext ρ6 ρ7 H6 H7 ∧ Rel K w ρ7 H7 s7 ∧ Post K w ρ7 H7 (lcI s1.length ok1 m1 ft1 fe (wipeA env3 vs1) (fun s => lc2L s1.length ok m ft mi1 m1 ft1 fe (wipeA env vs) vs1 (xs.drop (i + 1)) s) (ys.drop j) s7) (fun a _ ρ' H' => ∀ v, Rv K H' ρ' v a → Q v H') (W · · σ ·), ⟨_, rfl, Nat.zero_le _, ρ6, s6, Ext.refl _ _, r6, by rw [List.drop_zero]; exact p6⟩, ?_⟩
            rintro j k H7 ⟨rfl, hj2, ρ7, s7, e7, r7, p7⟩
            by_cases ltj : j < ys.length
            · have ey : ys[j]? = some ys[j] := List.getElem?_eq_getElem ltj
              rw [List.drop_eq_getElem_cons ltj] at p7
              unfold lcI at p7
              split at p7
              · rename_i hok1
                obtain ⟨hgo1, hy1⟩ := hJ1.go j _ ρ7 H7 s7 e7 r7 hok1 ey
                refine .inr ⟨hgo1, fun H' => ∃ ρ8 s8, Ext ρ6 ρ8 H6 H' ∧ Rel K w ρ8 H' s8 ∧ Post K w ρ8 H' (lcI s1.length ok1 m1 ft1 fe (wipeA env3 vs1) (fun s => lc2L s1.length ok m ft mi1 m1 ft1 fe (wipeA env vs) vs1 (xs.drop (i + 1)) s) (ys.drop (j + 1)) s8) (fun a _ ρ' H' => ∀ v, Rv K H' ρ' v a → Q v H') (W · · σ ·), fun H' hN => ⟨ys.length - (j + 1), by omega, rfl, ltj, hN⟩, fun x1 H8 yl1 => ?_⟩
                obtain ⟨sm1, hx1⟩ := hy1 x1 H8 yl1
                have e8 : Ext ρ7 ρ7 H7 H8 := Ext.same sm1
                have r8 := r7.same sm1
                refine hg1 H8 ρ7 (L2.wipe σ3 vs1) (wipeA env3 vs1) x1 _ _ ((re3.ext (e5.trans (e6.trans (e7.trans e8)))).wipe vs1) hx1 ?_
                cases em1 : m1 ys[j] (wipeA env3 vs1) with
                | none => rw [em1] at p7; exact p7
                | some env4 =>
                  rw [em1] at p7
                  intro σ4 re4 wp4
                  refine ⟨wp4.trans wipe_wipe, ht1 ρ7 H8 s7 σ4 env4 _ r8 re4 (noX_use (Post.ext p7 e8) fun k s9 ρ9 H9 e9 r9 p9 => ?_)⟩
                  cases k with
                  | false =>
                    refine iteF ⟨ρ9, s9, e7.trans (e8.trans e9), r9, p9⟩
                  | true =>
                    refine iteT (he ρ9 H9 s9 σ4 env4 _ r9 (re4.ext e9) (noX_use p9 fun y s10 ρ10 H10 e10 r10 p10 v hv => ?_))
                    have E10 := E6.trans (e7.trans (e8.trans (e9.trans e10)))
                    split at p10
                    · rename_i acc ea2
                      obtain ⟨us, h1, h2⟩ := r10.get (E10.get hD) ea2
                      split at p10
                      · rename_i hl
                        obtain ⟨e11, r11⟩ := set_put r10 (E10.get hD) (h2.append (.cons hv .nil))
                        exact ⟨us, h1, by rw [h2.length]; exact hl, ρ10, _, e7.trans (e8.trans (e9.trans (e10.trans e11))), r11, Post.ext p10 e11⟩
                      · exact p10.elim
                    · exact p10.elim
              · exact p7.elim
            · obtain rfl : j = ys.length := by omega
              rw [List.drop_length] at p7
              unfold lcI at p7
              split at p7
              · rename_i hok1
                exact .inl ⟨hJ1.stop ρ7 H7 s7 e7 r7 hok1, ρ7, s7, E6.trans e7, r7, p7⟩
              · exact p7.elim
      · exact p2.elim
    · obtain rfl : i = xs.length := by omega
      rw [List.drop_length] at p2
      unfold lc2L at p2
      split at p2
      · rename_i hok
        exact .inl ⟨hJ.stop ρ2 H2 s2 e13 r3 hok, p2.give r3 (.ref (e3.get hD))⟩
      · exact p2.elim
end

/-! ### mirrors: a tuple times a number -/
section
variable {w : World} {W : WishX} {X : Cx}
theorem tuple_mul1 (l : Addr) (items : Array Value) (n : Nat) (dd : Option Addr) (sl : Array (Option Value)) (u : Tok) (c1 : (items.isEmpty || (1 : Int) == 1) = true) :
    Meets (Builtin.«tuple.__mul__» ⟨[.ref l, .int 1 u], []⟩) (fun _ R s => s.heap.get? l = some { cls := .type "tuple", dict := dd, data := .seq items n, slots := sl } ∧ R (.ok (.ret (Value.ref l))) s) :=
  .of_wp fun prog w A R s h => by
    obtain ⟨hp, g, d, tk, os⟩ := s
    obtain ⟨hl, h⟩ := h
    have f1 := AutoSeq1.idx_int
    have c0 : (decide ((1 : Int) < -(2 ^ 63)) || decide ((1 : Int) ≥ 2 ^ 63)) = false := by decide
    wp_walk using wpAny_loadPart' hl
    repeat (first
      | (refine wpAny_ite_false (decide_eq_false (by rw [c0]; exact Bool.false_ne_true)) ?_; wp_walk using wpAny_loadPart' hl)
      | (refine wpAny_ite_true (decide_eq_true c1) ?_; wp_walk using wpAny_loadPart' hl))
    exact ⟨_, rfl, h⟩
theorem tuple_mul0 (l : Addr) (items : Array Value) (n : Nat) (dd : Option Addr) (sl : Array (Option Value)) (u : Tok) (c1 : (items.isEmpty || (0 : Int) == 1) = false) :
    Meets (Builtin.«tuple.__mul__» ⟨[.ref l, .int 0 u], []⟩) (fun _ R s => s.heap.get? l = some { cls := .type "tuple", dict := dd, data := .seq items n, slots := sl } ∧
      R (.ok (.ret (Value.ref s.heap.objs.size))) { s with heap := s.heap.push { cls := Value.type "tuple", data := Data.seq #[] }, toks := s.toks }) :=
  .of_wp fun prog w A R s h => by
    obtain ⟨hp, g, d, tk, os⟩ := s
    obtain ⟨hl, h⟩ := h
    have f1 := AutoSeq1.idx_int
    have c0 : (decide ((0 : Int) < -(2 ^ 63)) || decide ((0 : Int) ≥ 2 ^ 63)) = false := by decide
    have c2 : (decide ((0 : Int) ≤ 0) || items.isEmpty) = true := by simp
    have c3 : ¬ sizeLine < (#[] : Array Value).size := by simp
    wp_walk using wpAny_loadPart' hl
    repeat (first
      | (refine wpAny_ite_false (decide_eq_false (by rw [c0]; exact Bool.false_ne_true)) ?_; wp_walk using wpAny_loadPart' hl)
      | (refine wpAny_ite_false (decide_eq_false (by rw [c1]; exact Bool.false_ne_true)) ?_; wp_walk using wpAny_loadPart' hl)
      | (refine wpAny_ite_true (decide_eq_true c2) ?_; wp_walk using wpAny_loadPart' hl)
      | (refine wpAny_ite_false (decide_eq_false c3) ?_; wp_walk using wpAny_loadPart' hl))
    exact ⟨_, rfl, h⟩
def rRepS (K : PySem.W.Frag) : R2 := fun x y H Q => ∃ l k xs, x = .ref l ∧ y = .int k ∧ SqT K H l xs ∧ xs ≠ [] ∧ (k = 0 ∨ k = 1) ∧ (k = 0 → ∀ p, H p = none → Q (.ref p) (upd H p (.tup []))) ∧ (k = 1 → Q (.ref l) H)
theorem op_repS : OpR X (binaryOp .Mult) (rRepS X.K) := by
  intro pins s σ H x y v u Q I rx ry h
  obtain ⟨l, k, xs, rfl, rfl, hT, hne, hk, q0, q1⟩ := h
  cases rx
  obtain ⟨t, rfl⟩ := ry
  obtain ⟨its, r, ⟨⟨cls, dd, data, sl⟩, ho, hc, n, hd⟩, hs⟩ := I.tuple hT
  simp only at hc hd
  subst hc hd
  have hle : its.length = xs.length := r.length.symm
  have hn : its ≠ [] := fun e => hne (by
    rw [e] at hle
    exact List.eq_nil_of_length_eq_zero hle.symm)
  have hi : its.toArray.isEmpty = false := by
    cases its with
    | nil => exact absurd rfl hn
    | cons a b => rfl
  rcases hk with rfl | rfl
  · refine wpAny_binaryOp_repeat_ref (T := "tuple") (U := "int") (by decide) ⟨_, ho, rfl⟩ (fun s' => typeIs_int s' 0 t) noFill_tuple_mul F.fills_int_mul F.slot_int_rmul repeat_tuple F.slot_int_index.lookup
      (call_meets F.slot_int_rmul (typeIs_int s 0 t) F.entry_int_rmul (F.args_int_rmul_2 _ _) (int_rmul_tuple 0 t l its.toArray n dd sl)
        ⟨ho, rfl, ⟨_, ho, rfl⟩, call_meets F.slot_tuple_mul ⟨_, ho, rfl⟩ F.entry_tuple_mul (F.args_tuple_mul_2 _ _) (tuple_mul0 l its.toArray n dd sl t (by rw [hi]; rfl)) ⟨ho, ?_⟩⟩)
    refine ⟨.ref s.heap.objs.size, _, I.laid (t' := s.toks) (o := .tup []) (fun b ob q => Heap.get?_push_of_some _ q) (Nat.le_refl _) ?_, rfl, q0 rfl _ (I.hok.fresh (Nat.le_refl _))⟩
    exact ⟨Nat.zero_le _, [], .nil, IsTup.new _ _⟩
  · refine wpAny_binaryOp_repeat_ref (T := "tuple") (U := "int") (by decide) ⟨_, ho, rfl⟩ (fun s' => typeIs_int s' 1 t) noFill_tuple_mul F.fills_int_mul F.slot_int_rmul repeat_tuple F.slot_int_index.lookup
      (call_meets F.slot_int_rmul (typeIs_int s 1 t) F.entry_int_rmul (F.args_int_rmul_2 _ _) (int_rmul_tuple 1 t l its.toArray n dd sl)
        ⟨ho, rfl, ⟨_, ho, rfl⟩, call_meets F.slot_tuple_mul ⟨_, ho, rfl⟩ F.entry_tuple_mul (F.args_tuple_mul_2 _ _) (tuple_mul1 l its.toArray n dd sl t (by simp)) ⟨ho, ?_⟩⟩)
    exact ⟨.ref l, _, I, rfl, q1 rfl⟩
def oRepT : A → A → Sto → Res A := fun a b st => match a, b with
  | .tup xs, .int k => if xs.isEmpty = false ∧ 0 ≤ k ∧ k ≤ 1000 ∧ xs.length ≤ 1000 then .ok (.tup (List.replicate k.toNat xs).flatten) st else .no
  | _, _ => .no
def rRepTT (K : PySem.W.Frag) : R2 := rOr (rRepS K) (rRepT K)
theorem r2_repT : R2ok K w (rRepTT K) oRepT := fun ρ H st x y a b Q X rel ra rb p => by
  unfold oRepT at p
  split at p
  · rename_i xs k
    cases rb
    split at p
    · rename_i hc
      obtain ⟨h1, h2, h3, h4⟩ := hc
      cases ra with
      | @tup l vs _ hT hv =>
        have hne : vs ≠ [] := fun e => by
          subst e
          cases hv
          cases h1
        have hl := hv.length
        by_cases k2 : 2 ≤ k
        · refine .inr ⟨l, k, vs, rfl, rfl, hT, hne, k2, h3, by omega, fun q nq => ?_⟩
          have e : Ext ρ ρ H (upd H q (.tup (List.replicate k.toNat vs).flatten)) := Ext.same (same_upd nq)
          exact p.giveAt e (rel.same (same_upd nq)) (.tup (.inl (.inl upd_same)) (rvs_rep (rvs_ext e hv) k.toNat))
        · by_cases k0 : k = 0
          · subst k0
            refine .inl ⟨l, 0, vs, rfl, rfl, hT, hne, .inl rfl, fun _ q nq => ?_, (fun z => by cases z)⟩
            have e : Ext ρ ρ H (upd H q (.tup [])) := Ext.same (same_upd nq)
            exact p.giveAt e (rel.same (same_upd nq)) (.tup (.inl (.inl upd_same)) .nil)
          · have k1 : k = 1 := by omega
            subst k1
            refine .inl ⟨l, 1, vs, rfl, rfl, hT, hne, .inr rfl, (fun z => by cases z), fun _ => ?_⟩
            refine p.give rel ?_
            show Rv K H ρ (.ref l) (.tup (List.replicate 1 xs).flatten)
            simp only [List.replicate_one, List.flatten_cons, List.flatten_nil, List.append_nil]
            exact .tup hT hv
    · exact p.elim
  · exact p.elim
def rMulY (K : PySem.W.Frag) : R2 := rOr (rRepTT K) rMulX
theorem dMulY : OpR X (binaryOp .Mult) (rMulY X.K) := OpR.or (OpR.or op_repS op_repT) dMulX
def oMulY : A → A → Sto → Res A := oOr (fun a _ => isTup a) oRepT oMulX
theorem r2_mulY : R2ok K w (rMulY K) oMulY := r2_or r2_repT r2_mulX
end
section
variable {a b : A} {st : Sto} {i j : Int} {xs : List A} {c : Bool}
theorem ev_mulYI : oMulY (.int i) (.int j) st = if cMul i j = true then .ok (.int (i * j)) st else .no := rfl
theorem ev_mulYB : oMulY (.bl c) (.int j) st = .ok (.int (b2i c * j)) st := rfl
theorem ev_mulYL {n : Nat} : oMulY (.ref n) b st = repK (getM st (.ref n)) b st := rfl
theorem ev_mulYT : oMulY (.tup xs) (.int j) st = if xs.isEmpty = false ∧ 0 ≤ j ∧ j ≤ 1000 ∧ xs.length ≤ 1000 then .ok (.tup (List.replicate j.toNat xs).flatten) st else .no := rfl
end

/-! ### mirrors: what a run comes to, by what is asked behind it -/
def okR {α : Type} (r : Res α) (Q : α → Sto → Prop) : Prop := match r with
  | .ok a s => Q a s
  | _ => False
def okF (r : RF) (Q : Fl → Sto → Prop) : Prop := match r with
  | .fl f s => Q f s
  | _ => False
def fK (Q : A → Sto → Prop) : Fl → Sto → Prop
  | .rt a, s => Q a s
  | .nx _, s => Q .non s
  | _, _ => False
def nK (g : MS) (Q : Fl → Sto → Prop) : Fl → Sto → Prop
  | .nx e, s => okF (g e s) Q
  | f, s => Q f s
def tK {α : Type} (k : α → Sto → RF) (Q : Fl → Sto → Prop) : α → Sto → Prop := fun a s => okF (k a s) Q
def bK {α β : Type} (k : α → Sto → Res β) (Q : β → Sto → Prop) : α → Sto → Prop := fun a s => okR (k a s) Q
/-- behind a loop's body -/
def lK (J : AEnv → Sto → Prop) (Q : Fl → Sto → Prop) : Fl → Sto → Prop
  | .nx e, s => J e s
  | .ct e, s => J e s
  | .bk e, s => Q (.nx e) s
  | .rt a, s => Q (.rt a) s
/-- .. where nothing is left early -/
def jK (J : AEnv → Sto → Prop) : Fl → Sto → Prop
  | .nx e, s => J e s
  | .ct e, s => J e s
  | _, _ => False
section
variable {α β : Type} {r : Res α} {f : RF} {s : Sto} {a : α} {c : A} {e : AEnv}
theorem wp_okR {Q : α → Sto → Prop} : okR (.ok a s) Q = Q a s := rfl
theorem wp_okF {x : Fl} {Q : Fl → Sto → Prop} : okF (.fl x s) Q = Q x s := rfl
theorem wp_fin {Q : A → Sto → Prop} : okR (fin f) Q = okF f (fK Q) := by
  rcases f with ⟨_ | _ | _ | _, _⟩ | _ | _ <;> rfl
theorem wp_next {g : MS} {Q : Fl → Sto → Prop} : okF (f.next g) Q = okF f (nK g Q) := by
  rcases f with ⟨_ | _ | _ | _, _⟩ | _ | _ <;> rfl
theorem wp_then {k : α → Sto → RF} {Q : Fl → Sto → Prop} : okF (r.thenS e k) Q = okR r (tK k Q) := by
  cases r <;> rfl
theorem wp_bind {k : α → Sto → Res β} {Q : β → Sto → Prop} : okR (r.bind k) Q = okR r (bK k Q) := by
  cases r <;> rfl
theorem wp_nox {Q : α → Sto → Prop} : okR (noX r) Q = okR r Q := by
  cases r <;> rfl
theorem wp_tK {k : α → Sto → RF} {Q : Fl → Sto → Prop} : tK k Q a s = okF (k a s) Q := rfl
theorem wp_bK {k : α → Sto → Res β} {Q : β → Sto → Prop} : bK k Q a s = okR (k a s) Q := rfl
theorem wp_fr {Q : A → Sto → Prop} : fK Q (.rt c) s = Q c s := rfl
theorem wp_fn {Q : A → Sto → Prop} : fK Q (.nx e) s = Q .non s := rfl
theorem wp_nn {g : MS} {Q : Fl → Sto → Prop} : nK g Q (.nx e) s = okF (g e s) Q := rfl
theorem wp_nr {g : MS} {Q : Fl → Sto → Prop} : nK g Q (.rt c) s = Q (.rt c) s := rfl
theorem wp_nb {g : MS} {Q : Fl → Sto → Prop} : nK g Q (.bk e) s = Q (.bk e) s := rfl
theorem wp_nc {g : MS} {Q : Fl → Sto → Prop} : nK g Q (.ct e) s = Q (.ct e) s := rfl
theorem wp_ln {J : AEnv → Sto → Prop} {Q : Fl → Sto → Prop} : lK J Q (.nx e) s = J e s := rfl
theorem wp_lc {J : AEnv → Sto → Prop} {Q : Fl → Sto → Prop} : lK J Q (.ct e) s = J e s := rfl
theorem wp_lb {J : AEnv → Sto → Prop} {Q : Fl → Sto → Prop} : lK J Q (.bk e) s = Q (.nx e) s := rfl
theorem wp_lr {J : AEnv → Sto → Prop} {Q : Fl → Sto → Prop} : lK J Q (.rt c) s = Q (.rt c) s := rfl
theorem wp_jn {J : AEnv → Sto → Prop} : jK J (.nx e) s = J e s := rfl
theorem wp_jc {J : AEnv → Sto → Prop} : jK J (.ct e) s = J e s := rfl
theorem okR_use {P Q : α → Sto → Prop} (h : okR r P) (k : ∀ a s, P a s → Q a s) : okR r Q := by
  cases r with
  | ok a s => exact k a s h
  | _ => exact h
theorem okF_use {P Q : Fl → Sto → Prop} (h : okF f P) (k : ∀ a s, P a s → Q a s) : okF f Q := by
  cases f with
  | fl x s => exact k x s h
  | _ => exact h
theorem okR_of {P : α → Sto → Prop} (h : ∃ a s, r = .ok a s ∧ P a s) : okR r P := by
  obtain ⟨a, s, rfl, h⟩ := h
  exact h
theorem okR_out {P : α → Sto → Prop} (h : okR r P) : ∃ a s, r = .ok a s ∧ P a s := by
  cases r with
  | ok a s => exact ⟨a, s, rfl, h⟩
  | _ => exact h.elim
theorem okF_out {P : Fl → Sto → Prop} (h : okF f P) : ∃ a s, f = .fl a s ∧ P a s := by
  cases f with
  | fl a s => exact ⟨a, s, rfl, h⟩
  | _ => exact h.elim
theorem okF_ifB {c : Bool} {x y : RF} {Q : Fl → Sto → Prop} (h1 : c = true → okF x Q) (h2 : c = false → okF y Q) : okF (if c = true then x else y) Q := by
  cases c
  · exact h2 rfl
  · exact h1 rfl
theorem okR_ifB {c : Bool} {x y : Res α} {Q : α → Sto → Prop} (h1 : c = true → okR x Q) (h2 : c = false → okR y Q) : okR (if c = true then x else y) Q := by
  cases c
  · exact h2 rfl
  · exact h1 rfl
theorem okF_ifP {c : Prop} [Decidable c] {x y : RF} {Q : Fl → Sto → Prop} (h1 : c → okF x Q) (h2 : ¬ c → okF y Q) : okF (if c then x else y) Q := by
  split
  · exact h1 (by assumption)
  · exact h2 (by assumption)
theorem okR_ifP {c : Prop} [Decidable c] {x y : Res α} {Q : α → Sto → Prop} (h1 : c → okR x Q) (h2 : ¬ c → okR y Q) : okR (if c then x else y) Q := by
  split
  · exact h1 (by assumption)
  · exact h2 (by assumption)
end
theorem forL_wp {ok : Sto → Prop} {g : MG} {b : MS} {Q : Fl → Sto → Prop} (I : Nat → AEnv → Sto → Prop) (hok : ∀ i env s, I i env s → ok s) : ∀ {xs : List A} {j : Nat} {env : AEnv} {st : Sto}, I j env st →
    (∀ i x env s, xs[i]? = some x → I (j + i) env s → ∃ e1, g x env = some e1 ∧ okF (b e1 s) (lK (I (j + i + 1)) Q)) → (∀ env s, I (j + xs.length) env s → Q (.nx env) s) → okF (forL ok g b xs env st) Q
  | [], j, env, st, h0, _, he => by
    unfold forL
    rw [if_pos (hok _ _ _ h0)]
    exact he _ _ h0
  | x :: xs, j, env, st, h0, hs, he => by
    obtain ⟨e1, h1, h2⟩ := hs 0 x env st rfl h0
    obtain ⟨fl, s', h3, h4⟩ := okF_out h2
    have go : ∀ e s, I (j + 1) e s → okF (forL ok g b xs e s) Q := fun e s hI => forL_wp I hok (j := j + 1) hI (fun i y env s hy h => by
      have := hs (i + 1) y env s (by simpa using hy) (by rw [show j + (i + 1) = j + 1 + i by omega]; exact h)
      rw [show j + (i + 1) + 1 = j + 1 + i + 1 by omega] at this
      exact this) (fun env s h => he env s (by rw [List.length_cons, show j + (xs.length + 1) = j + 1 + xs.length by omega]; exact h))
    unfold forL
    rw [if_pos (hok _ _ _ h0), h1]
    simp only [h3]
    cases fl with
    | nx e => exact go e s' h4
    | ct e => exact go e s' h4
    | bk e => exact h4
    | rt a => exact h4
theorem lcL_wp {n : Nat} {ok : Sto → Prop} {g : MG} {tt : MT} {te : ME} {env : AEnv} {Q : A → Sto → Prop} (I : Nat → List A → Sto → Prop) (hok : ∀ i acc s, I i acc s → ok s) : ∀ {xs : List A} {j : Nat} {acc : List A} {st : Sto}, I j acc st →
    (∀ i x acc s, xs[i]? = some x → I (j + i) acc s → ∃ e1, g x env = some e1 ∧ okR (tt e1 s) fun c s1 => if c = true then okR (te e1 s1) (fun y s2 => s2[n]? = some (.lst acc) ∧ acc.length < 16777216 ∧ I (j + i + 1) (acc ++ [y]) (s2.set n (.lst (acc ++ [y])))) else I (j + i + 1) acc s1) →
    (∀ acc s, I (j + xs.length) acc s → Q (.ref n) s) → okR (lcL n ok g tt te env xs st) Q
  | [], j, acc, st, h0, _, he => by
    unfold lcL
    rw [if_pos (hok _ _ _ h0)]
    exact he _ _ h0
  | x :: xs, j, acc, st, h0, hs, he => by
    obtain ⟨e1, h1, h2⟩ := hs 0 x acc st rfl h0
    obtain ⟨c, s1, h3, h4⟩ := okR_out h2
    have go : ∀ acc s, I (j + 1) acc s → okR (lcL n ok g tt te env xs s) Q := fun acc s hI => lcL_wp I hok (j := j + 1) hI (fun i y acc s hy h => by
      have := hs (i + 1) y acc s (by simpa using hy) (by rw [show j + (i + 1) = j + 1 + i by omega]; exact h)
      rw [show j + (i + 1) + 1 = j + 1 + i + 1 by omega] at this
      exact this) (fun acc s h => he acc s (by rw [List.length_cons, show j + (xs.length + 1) = j + 1 + xs.length by omega]; exact h))
    unfold lcL
    rw [if_pos (hok _ _ _ h0), h1]
    simp only [h3, ev_xok, ev_bok]
    cases c with
    | false => exact go acc s1 h4
    | true =>
      obtain ⟨y, s2, h5, h6, h7, h8⟩ := okR_out h4
      simp only [if_true, h5, ev_xok, ev_bok, h6]
      rw [if_pos (by rw [sizeLine_eq]; exact h7)]
      exact go _ _ h8
theorem whileF_wp {c : MT} {b : MS} {Q : Fl → Sto → Prop} (I : Nat → AEnv → Sto → Prop)
    (step : ∀ k env s, I k env s → okR (c env s) fun t s1 => if t = true then ∃ k', k = k' + 1 ∧ okF (b env s1) (lK (I k') Q) else Q (.nx env) s1) : ∀ (k fuel : Nat) {env : AEnv} {st : Sto}, k < fuel → I k env st → okF (whileF c b fuel env st) Q
  | _, 0, _, _, hf, _ => absurd hf (Nat.not_lt_zero _)
  | k, fuel + 1, env, st, hf, h => by
    unfold whileF
    rw [wp_then]
    refine okR_use (step k env st h) fun t s1 ht => ?_
    rw [wp_tK]
    cases t with
    | false => exact ht
    | true =>
      obtain ⟨k', rfl, hb⟩ := ht
      obtain ⟨fl, s', h3, h4⟩ := okF_out hb
      simp only [if_true, h3]
      cases fl with
      | nx e => exact whileF_wp I step k' fuel (by omega) h4
      | ct e => exact whileF_wp I step k' fuel (by omega) h4
      | bk e => exact h4
      | rt a => exact h4
/-- a comprehension over what stays: its items leave at most new cells behind -/
theorem lc_W {ok : Sto → Prop} {g : MG} {tt : MT} {te : ME} {env : AEnv} {xs : List A} {S : Sto} {Q : A → Sto → Prop} (p : A → Bool) (F : A → A) (hok : ∀ l, ok (S ++ l)) (hl : xs.length < 16777216)
    (step : ∀ x ∈ xs, ∃ e1, g x env = some e1 ∧ (∀ l, okR (tt e1 (S ++ l)) fun c s => c = p x ∧ ∃ l', s = S ++ (l ++ l')) ∧ (p x = true → ∀ l, okR (te e1 (S ++ l)) fun y s => y = F x ∧ ∃ l', s = S ++ (l ++ l')))
    (h : ∀ l', Q (.ref S.length) (S ++ AO.lst ((xs.filter p).map F) :: l')) : okR (lcL S.length ok g tt te env xs (S ++ [.lst []])) Q := by
  refine lcL_wp (j := 0) (acc := []) (fun i acc s => acc = ((xs.take i).filter p).map F ∧ ∃ l', s = S ++ AO.lst acc :: l') (fun i acc s h => by obtain ⟨_, l', rfl⟩ := h; exact hok _) ⟨by simp, [], rfl⟩ (fun i x acc s hx hI => ?_) (fun acc s hI => ?_)
  · obtain ⟨ha, l', rfl⟩ := hI
    obtain ⟨e1, h1, h2, h3⟩ := step x (List.mem_of_getElem? hx)
    have hi := (List.getElem?_eq_some_iff.mp hx).1
    have tk : xs.take (0 + i + 1) = xs.take (0 + i) ++ [x] := by
      rw [Nat.zero_add, List.take_add_one, hx]
      rfl
    have hacc : acc.length ≤ xs.length := by
      rw [ha, List.length_map]
      exact Nat.le_trans (List.length_filter_le ..) (List.length_take_le' ..)
    refine ⟨e1, h1, okR_use (h2 _) fun c s1 hc => ?_⟩
    obtain ⟨rfl, l1, rfl⟩ := hc
    split
    · rename_i hp
      refine okR_use (h3 hp _) fun y s2 hy => ?_
      obtain ⟨rfl, l2, rfl⟩ := hy
      refine ⟨by simp only [List.cons_append]; rw [ev_app0]; rfl, by omega, ?_, l' ++ l1 ++ l2, ?_⟩
      · rw [tk, List.filter_append, List.map_append, ← ha]
        simp [hp]
      · simp only [List.cons_append]
        rw [ev_set0]
        rfl
    · rename_i hp
      refine ⟨?_, l' ++ l1, by simp⟩
      rw [tk, List.filter_append, List.map_append, ← ha]
      simp [hp]
  · obtain ⟨ha, l', rfl⟩ := hI
    rw [Nat.zero_add, List.take_length] at ha
    subst ha
    exact h l'
theorem lc_M {ok : Sto → Prop} {g : MG} {te : ME} {env : AEnv} {xs : List A} {S : Sto} {Q : A → Sto → Prop} (F : A → A) (hok : ∀ l, ok (S ++ l)) (hl : xs.length < 16777216)
    (step : ∀ x ∈ xs, ∃ e1, g x env = some e1 ∧ ∀ l, okR (te e1 (S ++ l)) fun y s => y = F x ∧ ∃ l', s = S ++ (l ++ l'))
    (h : ∀ l', Q (.ref S.length) (S ++ AO.lst (xs.map F) :: l')) : okR (lcL S.length ok g mYes te env xs (S ++ [.lst []])) Q :=
  lc_W (fun _ => true) F hok hl (fun x hx => by
    obtain ⟨e1, h1, h2⟩ := step x hx
    exact ⟨e1, h1, fun l => ⟨rfl, [], by simp⟩, fun _ => h2⟩) (fun l' => by
    rw [List.filter_eq_self.mpr (fun _ _ => rfl)]
    exact h l')

/-! ### mirrors: stores, the bag -/
structure Old (b : Nat) (st st' : Sto) : Prop where
  le : st.length ≤ st'.length
  eq : ∀ n, n < st.length → n ≠ b → st'[n]? = st[n]?
theorem Old.refl (b : Nat) (st : Sto) : Old b st st := ⟨Nat.le_refl _, fun _ _ _ => rfl⟩
theorem Old.trans {b : Nat} {s1 s2 s3 : Sto} (h : Old b s1 s2) (g : Old b s2 s3) : Old b s1 s3 := ⟨Nat.le_trans h.le g.le, fun n hn nb => (g.eq n (Nat.lt_of_lt_of_le hn h.le) nb).trans (h.eq n hn nb)⟩
theorem Old.get {b n : Nat} {st st' : Sto} {o : AO} (h : Old b st st') (e : st[n]? = some o) (nb : n ≠ b) : st'[n]? = some o := (h.eq n (List.getElem?_eq_some_iff.mp e).1 nb).trans e
theorem Old.app (b : Nat) (st : Sto) (o : AO) : Old b st (st ++ [o]) := ⟨by rw [List.length_append]; omega, fun n hn _ => List.getElem?_append_left hn⟩
theorem Old.put (b : Nat) (st : Sto) (o : AO) : Old b st (st.set b o) := ⟨by rw [List.length_set]; omega, fun n _ nb => List.getElem?_set_ne (fun z => nb z.symm)⟩
/-- what is new is changed -/
theorem Old.putNew {b n : Nat} {st st' : Sto} {o : AO} (h : Old b st st') (hn : st.length ≤ n) : Old b st (st'.set n o) := ⟨by rw [List.length_set]; exact h.le, fun m hm nb => by rw [List.getElem?_set_ne (by omega)]; exact h.eq m hm nb⟩
def BagAt (st : Sto) (b : Nat) : Prop := ∃ x y : Int, st[b]? = some (.lst [.int x, .int y]) ∧ 0 ≤ x ∧ 0 ≤ y ∧ y < 2147483647
theorem BagAt.lt {st : Sto} {b : Nat} (h : BagAt st b) : b < st.length := by
  obtain ⟨x, y, e, _⟩ := h
  exact (List.getElem?_eq_some_iff.mp e).1
theorem BagAt.app {st : Sto} {b : Nat} (h : BagAt st b) (o : AO) : BagAt (st ++ [o]) b := by
  have hl := h.lt
  obtain ⟨x, y, e, r⟩ := h
  exact ⟨x, y, by rw [List.getElem?_append_left hl]; exact e, r⟩
theorem BagAt.put {st : Sto} {b n : Nat} (h : BagAt st b) (o : AO) (ne : n ≠ b) : BagAt (st.set n o) b := by
  obtain ⟨x, y, e, r⟩ := h
  exact ⟨x, y, by rw [List.getElem?_set_ne ne]; exact e, r⟩
theorem ix20 : ixN 2 0 = some 0 := by decide
theorem ix21 : ixN 2 1 = some 1 := by decide
theorem cMul_r {i j : Int} (h : -(2 ^ 64) < j ∧ j < 2 ^ 64) : cMul i j = true := decide_eq_true (.inr h)
theorem cMul_l {i j : Int} (h : -(2 ^ 64) < i ∧ i < 2 ^ 64) : cMul i j = true := decide_eq_true (.inl h)
theorem log_lt {m : Int} (h0 : 0 < m) (h : m < 2 ^ 200) : m.natAbs.log2 < 9000 := by
  have h1 : m.natAbs < 2 ^ 200 := by omega
  have h2 : m.natAbs ≠ 0 := by omega
  have := (Nat.log2_lt h2).mpr h1
  omega
theorem putO_is {k : Int} {n j : Nat} {xs : List A} {a : A} {env : AEnv} {s : Sto} (h : ixN xs.length k = some j) : putO (.int k) (some (n, xs)) a env s = .fl (.nx env) (s.set n (.lst (xs.set j a))) := ev_putO h
/-! ### _law_take -/
abbrev s__law_take : Stmt := topS 54
theorem sc__law_take : FnScope ["bag", "many", "found"] ["bag", "many"] (defScope s__law_take) := ⟨rfl, rfl, rfl, by decide +kernel, rfl, by decide +kernel, by decide +kernel⟩

noncomputable def b__law_take : MS := (sSeq (sIf (mTest (mOp oGt (mOp oIxD (mVar 0) (mC (.int 0))) (mC (.int 0))))
 (sSeq (sAsg (mOp oMod (mOp oIxD (mVar 0) (mC (.int 0))) (mVar 1)) (mgName 2))
 (sSeq (sPutL (mOp oDiv (mOp oIxD (mVar 0) (mC (.int 0))) (mVar 1)) (mVar 0) (mC (.int 0)))
 (sRet (mVar 2))))
 sNext)
 (sSeq (sPutL (mOp oMod (mOp oMulX (mOp oIxD (mVar 0) (mC (.int 1))) (mC (.int 48271))) (mC (.int 2147483647))) (mVar 0) (mC (.int 1)))
 (sRet (mOp oMod (mOp oDiv (mOp oMod (mOp oMulX (mOp oIxD (mVar 0) (mC (.int 1))) (mOp oIxD (mVar 0) (mC (.int 1)))) (mC (.int 2147483629))) (mC (.int 64))) (mVar 1)))))
noncomputable def m__law_take : List A → Sto → Res A := runB 3 b__law_take
theorem ok__law_take {f : Addr} {fd : FuncData} (F : Fun K "_law_take" "_law_take" s__law_take f fd) (gm : mg "_law_take" = some (.ref f)) (N : Fre K mg)  : C8.Cal P w K mg base 1 "_law_take" (spN K w 2 m__law_take) [] := by
  refine mkCal F gm sc__law_take (F.binds (ps := ["bag", "many"]) fun _ _ _ _ _ _ us hl => match us, hl with | [_, _], _ => rfl) (fun vs H Q E h => ?_) (fun cdv A outer s H vs Q E hr h => ?_)
  · obtain ⟨_, _, _, hl, _⟩ := h
    exact hl
  · refine ⟨_, (pss_cons (ps_if (pt_cmpR (show OpR _ _ rGtD from dGt) (pe_ix (show IxR _ (rIxAny K) from dIx) (pv 0) pe_int (fun _ _ => rfl)) pe_int (nomark _))
 (pss_cons (ps_set (i := 2) sc__law_take.nd rfl (.inl rfl) (pe_op (show OpR _ _ rModD from dMod) (pe_ix (show IxR _ (rIxAny K) from dIx) (pv 0) pe_int (fun _ _ => rfl)) (pv 1)))
 (pss_cons (ps_asg (pe_op (show OpR _ _ rDivD from dDiv) (pe_ix (show IxR _ (rIxAny K) from dIx) (pv 0) pe_int (fun _ _ => rfl)) (pv 1)) (pg_sub (pv 0) pe_int set_list))
 (pss_one (ps_ret (pv 2)))))
 pss_nil)
 (pss_cons (ps_asg (pe_op (show OpR _ _ rModD from dMod) (pe_op (show OpR _ _ rMulX from dMulX) (pe_ix (show IxR _ (rIxAny K) from dIx) (pv 0) pe_int (fun _ _ => rfl)) pe_int) pe_int) (pg_sub (pv 0) pe_int set_list))
 (pss_one (ps_ret (pe_op (show OpR _ _ rModD from dMod) (pe_op (show OpR _ _ rDivD from dDiv) (pe_op (show OpR _ _ rModD from dMod) (pe_op (show OpR _ _ rMulX from dMulX) (pe_ix (show IxR _ (rIxAny K) from dIx) (pv 0) pe_int (fun _ _ => rfl)) (pe_ix (show IxR _ (rIxAny K) from dIx) (pv 0) pe_int (fun _ _ => rfl))) pe_int) pe_int) (pv 1)))))), ?_⟩
    exact spN_body (b := b__law_take) (show RS K w WF _ b__law_take from (rs_seq (rs_if (rt_test (re_op r2_gt (re_op r2_ixD (re_var (i := 0)) re_int) re_int))
 (rs_seq (rs_asg (re_op r2_mod (re_op r2_ixD (re_var (i := 0)) re_int) (re_var (i := 1))) (rg_name (i := 2) (vs := [2]) (by decide)))
 (rs_seq (rs_putL (re_op r2_div (re_op r2_ixD (re_var (i := 0)) re_int) (re_var (i := 1))) (re_var (i := 0)) re_int)
 (rs_ret (re_var (i := 2)))))
 rs_next)
 (rs_seq (rs_putL (re_op r2_mod (re_op r2_mulX (re_op r2_ixD (re_var (i := 0)) re_int) re_int) re_int) (re_var (i := 0)) re_int)
 (rs_ret (re_op r2_mod (re_op r2_div (re_op r2_mod (re_op r2_mulX (re_op r2_ixD (re_var (i := 0)) re_int) (re_op r2_ixD (re_var (i := 0)) re_int)) re_int) re_int) (re_var (i := 1))))))) h
theorem st__law_take (a0 a1 : A) (st : Sto) : m__law_take [a0, a1] st = fin (b__law_take [some a0, some a1, none] st) := rfl

/-! ### _law_bag -/
abbrev s__law_bag : Stmt := topS 53
theorem sc__law_bag : FnScope ["script", "k", "cell"] ["script", "k"] (defScope s__law_bag) := ⟨rfl, rfl, rfl, by decide +kernel, rfl, by decide +kernel, by decide +kernel⟩

noncomputable def b__law_bag : MS := (sSeq (sAsg (mC (.int 0)) (mgName 2))
 (sSeq (sIf (mTest (mOp oLt (mVar 1) (mCB oLen (mCons (mVar 0) mNil))))
 (sAsg (mCB oAbs (mCons (mOp oIxD (mVar 0) (mVar 1)) mNil)) (mgName 2))
 sNext)
 (sSeq (sIf (mTest (mOp oLt (mVar 2) (mOp oPow (mC (.int 10)) (mC (.int 18)))))
 (sRet (mLst (mCons (mC (.int 0)) (mCons (mOp oAddX (mC (.int 1)) (mOp oMod (mOp oAddX (mOp oMulX (mVar 2) (mC (.int 7919))) (mOp oMulX (mC (.int 104729)) (mVar 1))) (mC (.int 2147483646)))) mNil))))
 sNext)
 (sRet (mLst (mCons (mVar 2) (mCons (mOp oAddX (mC (.int 1)) (mOp oMod (mOp oAddX (mVar 2) (mVar 1)) (mC (.int 2147483646)))) mNil)))))))
noncomputable def m__law_bag : List A → Sto → Res A := runB 3 b__law_bag
theorem ok__law_bag {f : Addr} {fd : FuncData} (F : Fun K "_law_bag" "_law_bag" s__law_bag f fd) (gm : mg "_law_bag" = some (.ref f)) (N : Fre K mg)  : C8.Cal P w K mg base 1 "_law_bag" (spN K w 2 m__law_bag) [] := by
  refine mkCal F gm sc__law_bag (F.binds (ps := ["script", "k"]) fun _ _ _ _ _ _ us hl => match us, hl with | [_, _], _ => rfl) (fun vs H Q E h => ?_) (fun cdv A outer s H vs Q E hr h => ?_)
  · obtain ⟨_, _, _, hl, _⟩ := h
    exact hl
  · refine ⟨_, (pss_cons (ps_set (i := 2) sc__law_bag.nd rfl (.inl rfl) pe_int)
 (pss_cons (ps_if (pt_cmpR (show OpR _ _ rLtD from dLt) (pv 1) (pe_callB (show CallR _ _ (rLenAny K) from call_lenAny) (by rfl) N.len (by decide +kernel) (pa_cons (pv 0) pa_nil)) (nomark _))
 (pss_one (ps_set (i := 2) sc__law_bag.nd rfl (.inl rfl) (pe_callB call_abs (by rfl) N.abs (by decide +kernel) (pa_cons (pe_ix (show IxR _ (rIxAny K) from dIx) (pv 0) (pv 1) (fun _ _ => rfl)) pa_nil))))
 pss_nil)
 (pss_cons (ps_if (pt_cmpR (show OpR _ _ rLtD from dLt) (pv 2) (pe_op (show OpR _ _ rPowD from dPow) pe_int pe_int) (nomark _))
 (pss_one (ps_ret (pe_lst (pa_cons pe_int (pa_cons (pe_op (show OpR _ _ (rAddX K) from dAddX) pe_int (pe_op (show OpR _ _ rModD from dMod) (pe_op (show OpR _ _ (rAddX K) from dAddX) (pe_op (show OpR _ _ rMulX from dMulX) (pv 2) pe_int) (pe_op (show OpR _ _ rMulX from dMulX) pe_int (pv 1))) pe_int)) pa_nil)))))
 pss_nil)
 (pss_one (ps_ret (pe_lst (pa_cons (pv 2) (pa_cons (pe_op (show OpR _ _ (rAddX K) from dAddX) pe_int (pe_op (show OpR _ _ rModD from dMod) (pe_op (show OpR _ _ (rAddX K) from dAddX) (pv 2) (pv 1)) pe_int)) pa_nil)))))))), ?_⟩
    exact spN_body (b := b__law_bag) (show RS K w WF _ b__law_bag from (rs_seq (rs_asg re_int (rg_name (i := 2) (vs := [2]) (by decide)))
 (rs_seq (rs_if (rt_test (re_op r2_lt (re_var (i := 1)) (re_cb rl_len (ra_cons (re_var (i := 0)) ra_nil))))
 (rs_asg (re_cb rl_abs (ra_cons (re_op r2_ixD (re_var (i := 0)) (re_var (i := 1))) ra_nil)) (rg_name (i := 2) (vs := [2]) (by decide)))
 rs_next)
 (rs_seq (rs_if (rt_test (re_op r2_lt (re_var (i := 2)) (re_op r2_pow re_int re_int)))
 (rs_ret (re_lst (ra_cons re_int (ra_cons (re_op r2_addX re_int (re_op r2_mod (re_op r2_addX (re_op r2_mulX (re_var (i := 2)) re_int) (re_op r2_mulX re_int (re_var (i := 1)))) re_int)) ra_nil))))
 rs_next)
 (rs_ret (re_lst (ra_cons (re_var (i := 2)) (ra_cons (re_op r2_addX re_int (re_op r2_mod (re_op r2_addX (re_var (i := 2)) (re_var (i := 1))) re_int)) ra_nil)))))))) h
theorem st__law_bag (a0 a1 : A) (st : Sto) : m__law_bag [a0, a1] st = fin (b__law_bag [some a0, some a1, none] st) := rfl

theorem take_ev {st : Sto} {b : Nat} {m : Int} (hB : BagAt st b) (hm : 0 < m) (hm2 : m < 2 ^ 200) :
    ∃ r st', m__law_take [.ref b, .int m] st = .ok (.int r) st' ∧ 0 ≤ r ∧ r < m ∧ Old b st st' ∧ BagAt st' b ∧ st'.length = st.length := by
  have hl := hB.lt
  obtain ⟨x, y, hb, hx, hy, hy2⟩ := hB
  rw [st__law_take]
  unfold b__law_take
  by_cases h0 : 0 < x
  · have hd := log_lt hm hm2
    have hp : ∀ (a : A) (env : AEnv) (s : Sto), putO (.int 0) (some (b, [.int x, .int y])) a env s = .fl (.nx env) (s.set b (.lst [a, .int y])) := fun a env s => ev_putO (j := 0) ix20
    simp only [ev_bok, ev_bno, ev_bex, ev_tok, ev_tno, ev_tex, ev_nnx, ev_nrt, ev_nbk, ev_nct, ev_nex, ev_nno, ev_frt, ev_fnx, ev_fex, ev_xok, ev_lsome, ev_lnone, ev_seq, ev_if, ev_ret, ev_retN, ev_drop, ev_nop, ev_brk, ev_cont, ev_asgN, ev_asgT, ev_asgO, ev_mgTup, ev_mgN, ev_mgC, ev_mg0, ev_putL, ev_putO, ev_var, ev_vr, ev_c, ev_op, ev_un, ev_test, ev_tb, ev_notT, ev_andT, ev_orT, ev_ifE, ev_not, ev_nb, ev_and, ev_andK, ev_or, ev_orK, ev_chain, ev_chK, ev_nil, ev_cons, ev_tup, ev_lst, ev_new, ev_call, ev_cb, ev_size, ev_addI, ev_addS, ev_addT, ev_addL, ev_catO, ev_sub, ev_mul, ev_div, ev_mod, ev_p5, ev_p6, ev_p12, ev_p18, ev_p30, ev_neg, ev_ltI, ev_ltS, ev_leI, ev_leS, ev_gt, ev_ge, ev_eqI, ev_eqS, ev_neI, ev_neS, ev_neB, ev_eqB, ev_is, ev_isnot, ev_ixT, ev_ixS, ev_ixR, ev_ixL, ev_ixK, ev_getL, ev_getM, ev_gL, ev_gM, ev_at0, ev_at1, ev_at2, ev_at3, ev_at4, ev_lenS, ev_lenR, ev_lenT, ev_lenL, ev_lenO, ev_lenD, ev_abs, ev_min2, ev_max2, ev_intI, ev_intB, ev_set, ev_fc, ev_setset, ev_last, ev_appk, ev_app0, ev_setk, ev_set0, ev_assoc, ev_lapp, ev_lappA, ev_sl, ev_nopart, ev_part, ev_ptK, ev_slT, ev_slS, ev_slR, ev_slK, ev_tyN, ev_tyB, ev_tyI, ev_tyS, ev_tyT, ev_tyL, ev_tyR, ev_tyRL, ev_isi, ev_isi1, ev_isi2, ev_isi3, ev_isi4, ev_isi5, ev_isiT, ev_isi2K, ev_isTy, ev_list, ev_listK, ev_tuple, ev_tupK, ev_getST, ev_getSR, ev_getSL, ev_all, ev_allK, ev_eqXI, ev_eqXS, ev_neXI, ev_neXS, ev_neXB, ev_eqXB, ev_eqXR, ev_neXR, ev_nil2, ev_eqK, ev_neK, ev_meth, ev_meth0, ev_mth1, ev_mth2, ev_mth3, ev_append, ev_m0, ev_m0K, ev_str, ev_for, ev_miR1, ev_rg1K, ev_miL, ev_liK, ev_miT, ev_tiK, ev_lc, ev_wipe0, ev_wipeS, ev_yes, ev_lenSet, ev_lenSetK, ev_listR, ev_lrK, ev_put2, ev_p2A, ev_p2K, ev_p2E, ev_put1, ev_pt1, ev_addXI, ev_addXB, ev_addXS, ev_addXT, ev_addXL, ev_subXI, ev_subXB, ev_mulXI, ev_mulXB, ev_mulXL, ev_negXI, ev_negXB, ev_strXI, ev_strXB, ev_mulYI, ev_mulYB, ev_mulYL, ev_mulYT, List.getElem?_cons_zero, List.getElem?_cons_succ, List.set_cons_zero, List.set_cons_succ, List.length_cons, List.length_nil, List.cons_append, List.nil_append, if_true, if_false, Bool.false_eq_true, Bool.true_eq_false, reduceIte, Bool.not_true, Bool.not_false, Bool.and_true, Bool.true_and, Bool.and_false, Bool.false_and, Bool.or_true, Bool.true_or, Bool.or_false, Bool.false_or, decide_eq_true_eq, Nat.reduceAdd, Nat.reduceLeDiff, Nat.zero_add, Int.reduceLT, Int.reduceLE, Int.reduceEq, Int.reduceNeg, Nat.reduceEqDiff, and_self, and_true, true_and, decide_true, decide_false, eq_self, ite_true, ite_false, Int.reduceSub, Int.reduceAdd, Int.cast_ofNat_Int, Int.natCast_add, Int.cast_ofNat_Int, Nat.reduceSub, Nat.add_assoc, String.reduceBEq, String.reduceEq, Bool.or_not_self, beq_self_eq_true, hb, h0, hm, hd, hp, and_self, decide_true]
    refine ⟨_, _, rfl, Int.emod_nonneg _ (by omega), Int.emod_lt_of_pos _ hm, Old.put _ _ _, ⟨x / m, y, ?_, Int.ediv_nonneg hx (by omega), hy, hy2⟩, List.length_set⟩
    rw [List.getElem?_set_self hl]
  · have hp : ∀ (a : A) (env : AEnv) (s : Sto), putO (.int 1) (some (b, [.int x, .int y])) a env s = .fl (.nx env) (s.set b (.lst [.int x, a])) := fun a env s => ev_putO (j := 1) ix21
    have l64 : (64 : Int).natAbs.log2 < 9000 := by decide
    have c1 : cMul y 48271 = true := cMul_r (by decide)
    have hz1 : 0 ≤ y * 48271 % 2147483647 := Int.emod_nonneg _ (by decide)
    have hz2 : y * 48271 % 2147483647 < 2147483647 := Int.emod_lt_of_pos _ (by decide)
    have c2 : cMul (y * 48271 % 2147483647) (y * 48271 % 2147483647) = true := cMul_l ⟨by omega, by omega⟩
    have hs : (st.set b (.lst [.int x, .int (y * 48271 % 2147483647)]))[b]? = some (.lst [.int x, .int (y * 48271 % 2147483647)]) := List.getElem?_set_self hl
    simp only [ev_bok, ev_bno, ev_bex, ev_tok, ev_tno, ev_tex, ev_nnx, ev_nrt, ev_nbk, ev_nct, ev_nex, ev_nno, ev_frt, ev_fnx, ev_fex, ev_xok, ev_lsome, ev_lnone, ev_seq, ev_if, ev_ret, ev_retN, ev_drop, ev_nop, ev_brk, ev_cont, ev_asgN, ev_asgT, ev_asgO, ev_mgTup, ev_mgN, ev_mgC, ev_mg0, ev_putL, ev_putO, ev_var, ev_vr, ev_c, ev_op, ev_un, ev_test, ev_tb, ev_notT, ev_andT, ev_orT, ev_ifE, ev_not, ev_nb, ev_and, ev_andK, ev_or, ev_orK, ev_chain, ev_chK, ev_nil, ev_cons, ev_tup, ev_lst, ev_new, ev_call, ev_cb, ev_size, ev_addI, ev_addS, ev_addT, ev_addL, ev_catO, ev_sub, ev_mul, ev_div, ev_mod, ev_p5, ev_p6, ev_p12, ev_p18, ev_p30, ev_neg, ev_ltI, ev_ltS, ev_leI, ev_leS, ev_gt, ev_ge, ev_eqI, ev_eqS, ev_neI, ev_neS, ev_neB, ev_eqB, ev_is, ev_isnot, ev_ixT, ev_ixS, ev_ixR, ev_ixL, ev_ixK, ev_getL, ev_getM, ev_gL, ev_gM, ev_at0, ev_at1, ev_at2, ev_at3, ev_at4, ev_lenS, ev_lenR, ev_lenT, ev_lenL, ev_lenO, ev_lenD, ev_abs, ev_min2, ev_max2, ev_intI, ev_intB, ev_set, ev_fc, ev_setset, ev_last, ev_appk, ev_app0, ev_setk, ev_set0, ev_assoc, ev_lapp, ev_lappA, ev_sl, ev_nopart, ev_part, ev_ptK, ev_slT, ev_slS, ev_slR, ev_slK, ev_tyN, ev_tyB, ev_tyI, ev_tyS, ev_tyT, ev_tyL, ev_tyR, ev_tyRL, ev_isi, ev_isi1, ev_isi2, ev_isi3, ev_isi4, ev_isi5, ev_isiT, ev_isi2K, ev_isTy, ev_list, ev_listK, ev_tuple, ev_tupK, ev_getST, ev_getSR, ev_getSL, ev_all, ev_allK, ev_eqXI, ev_eqXS, ev_neXI, ev_neXS, ev_neXB, ev_eqXB, ev_eqXR, ev_neXR, ev_nil2, ev_eqK, ev_neK, ev_meth, ev_meth0, ev_mth1, ev_mth2, ev_mth3, ev_append, ev_m0, ev_m0K, ev_str, ev_for, ev_miR1, ev_rg1K, ev_miL, ev_liK, ev_miT, ev_tiK, ev_lc, ev_wipe0, ev_wipeS, ev_yes, ev_lenSet, ev_lenSetK, ev_listR, ev_lrK, ev_put2, ev_p2A, ev_p2K, ev_p2E, ev_put1, ev_pt1, ev_addXI, ev_addXB, ev_addXS, ev_addXT, ev_addXL, ev_subXI, ev_subXB, ev_mulXI, ev_mulXB, ev_mulXL, ev_negXI, ev_negXB, ev_strXI, ev_strXB, ev_mulYI, ev_mulYB, ev_mulYL, ev_mulYT, List.getElem?_cons_zero, List.getElem?_cons_succ, List.set_cons_zero, List.set_cons_succ, List.length_cons, List.length_nil, List.cons_append, List.nil_append, if_true, if_false, Bool.false_eq_true, Bool.true_eq_false, reduceIte, Bool.not_true, Bool.not_false, Bool.and_true, Bool.true_and, Bool.and_false, Bool.false_and, Bool.or_true, Bool.true_or, Bool.or_false, Bool.false_or, decide_eq_true_eq, Nat.reduceAdd, Nat.reduceLeDiff, Nat.zero_add, Int.reduceLT, Int.reduceLE, Int.reduceEq, Int.reduceNeg, Nat.reduceEqDiff, and_self, and_true, true_and, decide_true, decide_false, eq_self, ite_true, ite_false, Int.reduceSub, Int.reduceAdd, Int.cast_ofNat_Int, Int.natCast_add, Int.cast_ofNat_Int, Nat.reduceSub, Nat.add_assoc, String.reduceBEq, String.reduceEq, Bool.or_not_self, beq_self_eq_true, hb, h0, hm, hp, c1, c2, hs, l64]
    exact ⟨_, _, rfl, Int.emod_nonneg _ (by omega), Int.emod_lt_of_pos _ hm, Old.put _ _ _, ⟨x, _, hs, hx, hz1, hz2⟩, List.length_set⟩
theorem bag_pos' (c : Int) : 0 ≤ 1 + c % 2147483646 ∧ 1 + c % 2147483646 < 2147483647 := by
  have h1 : 0 ≤ c % 2147483646 := Int.emod_nonneg _ (by decide)
  have h2 : c % 2147483646 < 2147483646 := Int.emod_lt_of_pos _ (by decide)
  omega
theorem bag_ev {st : Sto} {ns : List Int} {k : Int} (hk : 0 ≤ k) (hk2 : k < 100) : ∃ o, m__law_bag [.lit (ns.map A.int), .int k] st = .ok (.ref st.length) (st ++ [o]) ∧ BagAt (st ++ [o]) st.length := by
  rw [st__law_bag]
  unfold b__law_bag
  have hpw : ((10 : Int) ^ (18 : Int).toNat) = 1000000000000000000 := by decide
  have pw : (0 ≤ (18 : Int) ∧ (18 : Int) ≤ 1000000 ∧ (10 : Int).natAbs < 2 ^ 64) = True := by simp
  have p1 : ((0 : Int) < 2147483646) = True := by simp
  have fin1 : ∀ d : Int, 0 ≤ d → ∃ o, fin (sSeq (sIf (mTest (mOp oLt (mVar 2) (mOp oPow (mC (.int 10)) (mC (.int 18))))) (sRet (mLst (mCons (mC (.int 0)) (mCons (mOp oAddX (mC (.int 1)) (mOp oMod (mOp oAddX (mOp oMulX (mVar 2) (mC (.int 7919))) (mOp oMulX (mC (.int 104729)) (mVar 1))) (mC (.int 2147483646)))) mNil)))) sNext) (sRet (mLst (mCons (mVar 2) (mCons (mOp oAddX (mC (.int 1)) (mOp oMod (mOp oAddX (mVar 2) (mVar 1)) (mC (.int 2147483646)))) mNil)))) [some (.lit (ns.map A.int)), some (.int k), some (.int d)] st) = .ok (.ref st.length) (st ++ [o]) ∧ BagAt (st ++ [o]) st.length := fun d hd => by
    have c1 : cMul d 7919 = true := cMul_r (by decide)
    have c2 : cMul 104729 k = true := cMul_l (by decide)
    by_cases h : d < 1000000000000000000
    · simp only [ev_bok, ev_bno, ev_bex, ev_tok, ev_tno, ev_tex, ev_nnx, ev_nrt, ev_nbk, ev_nct, ev_nex, ev_nno, ev_frt, ev_fnx, ev_fex, ev_xok, ev_lsome, ev_lnone, ev_seq, ev_if, ev_ret, ev_retN, ev_drop, ev_nop, ev_brk, ev_cont, ev_asgN, ev_asgT, ev_asgO, ev_mgTup, ev_mgN, ev_mgC, ev_mg0, ev_putL, ev_putO, ev_var, ev_vr, ev_c, ev_op, ev_un, ev_test, ev_tb, ev_notT, ev_andT, ev_orT, ev_ifE, ev_not, ev_nb, ev_and, ev_andK, ev_or, ev_orK, ev_chain, ev_chK, ev_nil, ev_cons, ev_tup, ev_lst, ev_new, ev_call, ev_cb, ev_size, ev_addI, ev_addS, ev_addT, ev_addL, ev_catO, ev_sub, ev_mul, ev_div, ev_mod, ev_p5, ev_p6, ev_p12, ev_p18, ev_p30, ev_neg, ev_ltI, ev_ltS, ev_leI, ev_leS, ev_gt, ev_ge, ev_eqI, ev_eqS, ev_neI, ev_neS, ev_neB, ev_eqB, ev_is, ev_isnot, ev_ixT, ev_ixS, ev_ixR, ev_ixL, ev_ixK, ev_getL, ev_getM, ev_gL, ev_gM, ev_at0, ev_at1, ev_at2, ev_at3, ev_at4, ev_lenS, ev_lenR, ev_lenT, ev_lenL, ev_lenO, ev_lenD, ev_abs, ev_min2, ev_max2, ev_intI, ev_intB, ev_set, ev_fc, ev_setset, ev_last, ev_appk, ev_app0, ev_setk, ev_set0, ev_assoc, ev_lapp, ev_lappA, ev_sl, ev_nopart, ev_part, ev_ptK, ev_slT, ev_slS, ev_slR, ev_slK, ev_tyN, ev_tyB, ev_tyI, ev_tyS, ev_tyT, ev_tyL, ev_tyR, ev_tyRL, ev_isi, ev_isi1, ev_isi2, ev_isi3, ev_isi4, ev_isi5, ev_isiT, ev_isi2K, ev_isTy, ev_list, ev_listK, ev_tuple, ev_tupK, ev_getST, ev_getSR, ev_getSL, ev_all, ev_allK, ev_eqXI, ev_eqXS, ev_neXI, ev_neXS, ev_neXB, ev_eqXB, ev_eqXR, ev_neXR, ev_nil2, ev_eqK, ev_neK, ev_meth, ev_meth0, ev_mth1, ev_mth2, ev_mth3, ev_append, ev_m0, ev_m0K, ev_str, ev_for, ev_miR1, ev_rg1K, ev_miL, ev_liK, ev_miT, ev_tiK, ev_lc, ev_wipe0, ev_wipeS, ev_yes, ev_lenSet, ev_lenSetK, ev_listR, ev_lrK, ev_put2, ev_p2A, ev_p2K, ev_p2E, ev_put1, ev_pt1, ev_addXI, ev_addXB, ev_addXS, ev_addXT, ev_addXL, ev_subXI, ev_subXB, ev_mulXI, ev_mulXB, ev_mulXL, ev_negXI, ev_negXB, ev_strXI, ev_strXB, ev_mulYI, ev_mulYB, ev_mulYL, ev_mulYT, List.getElem?_cons_zero, List.getElem?_cons_succ, List.set_cons_zero, List.set_cons_succ, List.length_cons, List.length_nil, List.cons_append, List.nil_append, if_true, if_false, Bool.false_eq_true, Bool.true_eq_false, reduceIte, Bool.not_true, Bool.not_false, Bool.and_true, Bool.true_and, Bool.and_false, Bool.false_and, Bool.or_true, Bool.true_or, Bool.or_false, Bool.false_or, decide_eq_true_eq, Nat.reduceAdd, Nat.reduceLeDiff, Nat.zero_add, Int.reduceLT, Int.reduceLE, Int.reduceEq, Int.reduceNeg, Nat.reduceEqDiff, and_self, and_true, true_and, decide_true, decide_false, eq_self, ite_true, ite_false, Int.reduceSub, Int.reduceAdd, Int.cast_ofNat_Int, Int.natCast_add, Int.cast_ofNat_Int, Nat.reduceSub, Nat.add_assoc, String.reduceBEq, String.reduceEq, Bool.or_not_self, beq_self_eq_true, h, c1, c2, p1, decide_true]
      exact ⟨_, rfl, 0, _, ev_last, by decide, (bag_pos' _).1, (bag_pos' _).2⟩
    · simp only [ev_bok, ev_bno, ev_bex, ev_tok, ev_tno, ev_tex, ev_nnx, ev_nrt, ev_nbk, ev_nct, ev_nex, ev_nno, ev_frt, ev_fnx, ev_fex, ev_xok, ev_lsome, ev_lnone, ev_seq, ev_if, ev_ret, ev_retN, ev_drop, ev_nop, ev_brk, ev_cont, ev_asgN, ev_asgT, ev_asgO, ev_mgTup, ev_mgN, ev_mgC, ev_mg0, ev_putL, ev_putO, ev_var, ev_vr, ev_c, ev_op, ev_un, ev_test, ev_tb, ev_notT, ev_andT, ev_orT, ev_ifE, ev_not, ev_nb, ev_and, ev_andK, ev_or, ev_orK, ev_chain, ev_chK, ev_nil, ev_cons, ev_tup, ev_lst, ev_new, ev_call, ev_cb, ev_size, ev_addI, ev_addS, ev_addT, ev_addL, ev_catO, ev_sub, ev_mul, ev_div, ev_mod, ev_p5, ev_p6, ev_p12, ev_p18, ev_p30, ev_neg, ev_ltI, ev_ltS, ev_leI, ev_leS, ev_gt, ev_ge, ev_eqI, ev_eqS, ev_neI, ev_neS, ev_neB, ev_eqB, ev_is, ev_isnot, ev_ixT, ev_ixS, ev_ixR, ev_ixL, ev_ixK, ev_getL, ev_getM, ev_gL, ev_gM, ev_at0, ev_at1, ev_at2, ev_at3, ev_at4, ev_lenS, ev_lenR, ev_lenT, ev_lenL, ev_lenO, ev_lenD, ev_abs, ev_min2, ev_max2, ev_intI, ev_intB, ev_set, ev_fc, ev_setset, ev_last, ev_appk, ev_app0, ev_setk, ev_set0, ev_assoc, ev_lapp, ev_lappA, ev_sl, ev_nopart, ev_part, ev_ptK, ev_slT, ev_slS, ev_slR, ev_slK, ev_tyN, ev_tyB, ev_tyI, ev_tyS, ev_tyT, ev_tyL, ev_tyR, ev_tyRL, ev_isi, ev_isi1, ev_isi2, ev_isi3, ev_isi4, ev_isi5, ev_isiT, ev_isi2K, ev_isTy, ev_list, ev_listK, ev_tuple, ev_tupK, ev_getST, ev_getSR, ev_getSL, ev_all, ev_allK, ev_eqXI, ev_eqXS, ev_neXI, ev_neXS, ev_neXB, ev_eqXB, ev_eqXR, ev_neXR, ev_nil2, ev_eqK, ev_neK, ev_meth, ev_meth0, ev_mth1, ev_mth2, ev_mth3, ev_append, ev_m0, ev_m0K, ev_str, ev_for, ev_miR1, ev_rg1K, ev_miL, ev_liK, ev_miT, ev_tiK, ev_lc, ev_wipe0, ev_wipeS, ev_yes, ev_lenSet, ev_lenSetK, ev_listR, ev_lrK, ev_put2, ev_p2A, ev_p2K, ev_p2E, ev_put1, ev_pt1, ev_addXI, ev_addXB, ev_addXS, ev_addXT, ev_addXL, ev_subXI, ev_subXB, ev_mulXI, ev_mulXB, ev_mulXL, ev_negXI, ev_negXB, ev_strXI, ev_strXB, ev_mulYI, ev_mulYB, ev_mulYL, ev_mulYT, List.getElem?_cons_zero, List.getElem?_cons_succ, List.set_cons_zero, List.set_cons_succ, List.length_cons, List.length_nil, List.cons_append, List.nil_append, if_true, if_false, Bool.false_eq_true, Bool.true_eq_false, reduceIte, Bool.not_true, Bool.not_false, Bool.and_true, Bool.true_and, Bool.and_false, Bool.false_and, Bool.or_true, Bool.true_or, Bool.or_false, Bool.false_or, decide_eq_true_eq, Nat.reduceAdd, Nat.reduceLeDiff, Nat.zero_add, Int.reduceLT, Int.reduceLE, Int.reduceEq, Int.reduceNeg, Nat.reduceEqDiff, and_self, and_true, true_and, decide_true, decide_false, eq_self, ite_true, ite_false, Int.reduceSub, Int.reduceAdd, Int.cast_ofNat_Int, Int.natCast_add, Int.cast_ofNat_Int, Nat.reduceSub, Nat.add_assoc, String.reduceBEq, String.reduceEq, Bool.or_not_self, beq_self_eq_true, h, p1, decide_false]
      exact ⟨_, rfl, d, _, ev_last, hd, (bag_pos' _).1, (bag_pos' _).2⟩
  by_cases h : k < ns.length
  · obtain ⟨j, hj⟩ : ∃ j : Nat, k = (j : Int) := ⟨k.toNat, by omega⟩
    have hjl : j < ns.length := by omega
    have hat : atI (ns.map A.int) k = some (.int ns[j]) := by
      rw [hj]
      exact atI_nat (by rw [List.getElem?_map, List.getElem?_eq_getElem hjl]; rfl)
    have ha : 0 ≤ (if ns[j] < 0 then -ns[j] else ns[j]) := by split <;> omega
    obtain ⟨o, e, g⟩ := fin1 _ ha
    refine ⟨o, ?_, g⟩
    simp only [ev_seq, ev_asgN, ev_c, ev_tok, ev_nnx, ev_if, ev_test, ev_op, ev_cb, ev_cons, ev_nil, ev_bok, ev_var, List.getElem?_cons_succ, List.getElem?_cons_zero, ev_vr, ev_lenL, List.set_cons_succ, List.set_cons_zero, List.length_map, ev_ltI, ev_tb, h, decide_true, if_true, ev_ixL, hat, ev_lsome, ev_abs] at e ⊢
    exact e
  · obtain ⟨o, e, g⟩ := fin1 0 (by decide)
    refine ⟨o, ?_, g⟩
    simp only [ev_seq, ev_asgN, ev_c, ev_tok, ev_nnx, ev_if, ev_test, ev_op, ev_cb, ev_cons, ev_nil, ev_bok, ev_var, List.getElem?_cons_succ, List.getElem?_cons_zero, ev_vr, ev_lenL, List.set_cons_succ, List.set_cons_zero, List.length_map, ev_ltI, ev_tb, h, decide_false, if_false, Bool.false_eq_true, ev_nop] at e ⊢
    exact e
theorem BagAt.apps {st : Sto} {b : Nat} (h : BagAt st b) (l : Sto) : BagAt (st ++ l) b := by
  have hl := h.lt
  obtain ⟨x, y, e, r⟩ := h
  exact ⟨x, y, by rw [List.getElem?_append_left hl]; exact e, r⟩
theorem Old.apps (b : Nat) (st l : Sto) : Old b st (st ++ l) := ⟨by rw [List.length_append]; omega, fun n hn _ => List.getElem?_append_left hn⟩

/-! ### _law_name -/
abbrev s__law_name : Stmt := topS 58
theorem sc__law_name : FnScope ["bag", "many", "k"] ["bag"] (defScope s__law_name) := ⟨rfl, rfl, rfl, by decide +kernel, rfl, by decide +kernel, by decide +kernel⟩

noncomputable def b__law_name : MS := (sSeq (sAsg (mOp oAddX (mC (.int 1)) (mOp oIxD (mLst (mCons (mCall 2 m__law_take (mCons (mVar 0) (mCons (mC (.int 3)) mNil))) (mCons (mCall 2 m__law_take (mCons (mVar 0) (mCons (mC (.int 8)) mNil))) mNil))) (mCB oInt (mCons (mOp oEqX (mCall 2 m__law_take (mCons (mVar 0) (mCons (mC (.int 4)) mNil))) (mC (.int 0))) mNil)))) (mgName 1))
 (sRet (mJoin (mC (.str "")) (mLc (miR1 (mCons (mVar 1) mNil)) (mgName 2) mYes (mOp oIxD (mC (.str "abcdefghijklmnopqrstuvwxyz")) (mCall 2 m__law_take (mCons (mVar 0) (mCons (mC (.int 26)) mNil)))) [2]))))
noncomputable def m__law_name : List A → Sto → Res A := runB 3 b__law_name
theorem ok__law_name {f : Addr} {fd : FuncData} (F : Fun K "_law_name" "_law_name" s__law_name f fd) (gm : mg "_law_name" = some (.ref f)) (N : Fre K mg) (c__law_take : C8.Cal P w K mg base 1 "_law_take" (spN K w 2 m__law_take) []) : C8.Cal P w K mg base 2 "_law_name" (spN K w 1 m__law_name) [] := by
  refine mkCal F gm sc__law_name (F.binds (ps := ["bag"]) fun _ _ _ _ _ _ us hl => match us, hl with | [_], _ => rfl) (fun vs H Q E h => ?_) (fun cdv A outer s H vs Q E hr h => ?_)
  · obtain ⟨_, _, _, hl, _⟩ := h
    exact hl
  · refine ⟨_, (pss_cons (ps_set (i := 1) sc__law_name.nd rfl (.inl rfl) (pe_op (show OpR _ _ (rAddX K) from dAddX) pe_int (pe_ix (show IxR _ (rIxAny K) from dIx) (pe_lst (pa_cons (C8.pe_c c__law_take hr (by decide) rfl (pa_cons (pv 0) (pa_cons pe_int pa_nil))) (pa_cons (C8.pe_c c__law_take hr (by decide) rfl (pa_cons (pv 0) (pa_cons pe_int pa_nil))) pa_nil))) (pe_callTy (show CallR _ _ rIntAny from call_intAny) (by rfl) N.int (by decide +kernel) (pa_cons (pe_cmpR (show OpR _ _ (rEqX K) from (dEqX hr.units)) (C8.pe_c c__law_take hr (by decide) rfl (pa_cons (pv 0) (pa_cons pe_int pa_nil))) pe_int (nomark _)) pa_nil)) (fun _ _ => rfl))))
 (pss_one (ps_ret (pe_join pe_str (pe_lc (own := [("k", 2)]) (g := gName 2) (tt := tYes) rfl sc__law_name.nd (pi_range1 (by rfl) N.range (pa_cons (pv 1) pa_nil)) (blkOk_by (N := ["bag", "many", "k"]) (sc := defScope s__law_name) (by decide +kernel)) (fun _ _ _ _ _ => pg_name (i := 2) sc__law_name.nd rfl (Or.inl rfl)) (fun _ _ _ _ _ => pts_nil) (fun _ _ _ _ _ => (pe_ix (show IxR _ (rIxAny K) from dIx) pe_str (C8.pe_c c__law_take hr (by decide) rfl (pa_cons (pv 0) (pa_cons pe_int pa_nil))) (fun _ _ => rfl)))))))), ?_⟩
    exact spN_body (b := b__law_name) (show RS K w WF _ b__law_name from (rs_seq (rs_asg (re_op r2_addX re_int (re_op r2_ixD (re_lst (ra_cons (re_call (ra_cons (re_var (i := 0)) (ra_cons re_int ra_nil))) (ra_cons (re_call (ra_cons (re_var (i := 0)) (ra_cons re_int ra_nil))) ra_nil))) (re_cb rl_int (ra_cons (re_op r2_eqX (re_call (ra_cons (re_var (i := 0)) (ra_cons re_int ra_nil))) re_int) ra_nil)))) (rg_name (i := 1) (vs := [1]) (by decide)))
 (rs_ret (re_join re_str (re_lc (ri_range1 (ra_cons (re_var (i := 1)) ra_nil)) (rg_name (i := 2) (vs := [2]) (by decide)) rt_yes (re_op r2_ixD re_str (re_call (ra_cons (re_var (i := 0)) (ra_cons re_int ra_nil))))))))) h
theorem st__law_name (a0 : A) (st : Sto) : m__law_name [a0] st = fin (b__law_name [some a0, none, none] st) := rfl

/-! ### _law_names -/
abbrev s__law_names : Stmt := topS 59
theorem sc__law_names : FnScope ["bag", "many", "found", "k"] ["bag", "many"] (defScope s__law_names) := ⟨rfl, rfl, rfl, by decide +kernel, rfl, by decide +kernel, by decide +kernel⟩
noncomputable def lb__law_names_1 : MS := (sDPutM (mVar 2) (mCall 1 m__law_name (mCons (mVar 0) mNil)) (mC (.bl true)))
noncomputable def b__law_names : MS := (sSeq (sAsg mDNew (mgName 2))
 (sSeq (sFor (miR1 (mCons (mVar 1) mNil)) (mgName 3)
 lb__law_names_1)
 (sSeq (sDrop (mDPop2 (mVar 2) (mC (.str "server")) (mC .non)))
 (sSeq (sIf (mTest (mOp oEqX (mCB oLen (mCons (mVar 2) mNil)) (mC (.int 0))))
 (sRet (mLst (mCons (mC (.str "a")) mNil)))
 sNext)
 (sRet (mCB oSorted (mCons (mVar 2) mNil)))))))
noncomputable def m__law_names : List A → Sto → Res A := runB 4 b__law_names
theorem ok__law_names {f : Addr} {fd : FuncData} (F : Fun K "_law_names" "_law_names" s__law_names f fd) (gm : mg "_law_names" = some (.ref f)) (N : Fre K mg) (c__law_name : C8.Cal P w K mg base 2 "_law_name" (spN K w 1 m__law_name) []) : C8.Cal P w K mg base 3 "_law_names" (spN K w 2 m__law_names) [] := by
  refine mkCal F gm sc__law_names (F.binds (ps := ["bag", "many"]) fun _ _ _ _ _ _ us hl => match us, hl with | [_, _], _ => rfl) (fun vs H Q E h => ?_) (fun cdv A outer s H vs Q E hr h => ?_)
  · obtain ⟨_, _, _, hl, _⟩ := h
    exact hl
  · refine ⟨_, (pss_cons (ps_set (i := 2) sc__law_names.nd rfl (.inl rfl) pe_dnewK)
 (pss_cons (ps_for PassesOwn.never rfl (pi_range1 (by rfl) N.range (pa_cons (pv 1) pa_nil)) (pg_name (i := 3) sc__law_names.nd rfl (.inl rfl))
 (pss_one (ps_dput (hu1 hr) (pv 2) (C8.pe_c c__law_name hr (by decide) rfl (pa_cons (pv 0) pa_nil)) pe_bl rfl)))
 (pss_cons (ps_expr (pe_dpop2 (pv 2) pe_str pe_non ⟨rfl, rfl, rfl, rfl⟩))
 (pss_cons (ps_if (pt_cmpR (show OpR _ _ (rEqX K) from (dEqX hr.units)) (pe_callB (show CallR _ _ (rLenAny K) from call_lenAny) (by rfl) N.len (by decide +kernel) (pa_cons (pv 2) pa_nil)) pe_int (nomark _))
 (pss_one (ps_ret (pe_lst (pa_cons pe_str pa_nil))))
 pss_nil)
 (pss_one (ps_ret (pe_callB (show CallR _ _ (rSortX K) from (call_sortX rfl)) (by rfl) N.sorted (by decide +kernel) (pa_cons (pv 2) pa_nil)))))))), ?_⟩
    exact spN_body (b := b__law_names) (show RS K w WF _ b__law_names from (rs_seq (rs_asg re_dnew (rg_name (i := 2) (vs := [2]) (by decide)))
 (rs_seq (rs_for (ri_range1 (ra_cons (re_var (i := 1)) ra_nil)) (rg_name (i := 3) (vs := [3]) (by decide))
 (rs_dput (re_var (i := 2)) (re_call (ra_cons (re_var (i := 0)) ra_nil)) re_bl))
 (rs_seq (rs_drop (re_dpop2 (re_var (i := 2)) re_str re_non))
 (rs_seq (rs_if (rt_test (re_op r2_eqX (re_cb rl_len (ra_cons (re_var (i := 2)) ra_nil)) re_int))
 (rs_ret (re_lst (ra_cons re_str ra_nil)))
 rs_next)
 (rs_ret (re_cb rl_sorted (ra_cons (re_var (i := 2)) ra_nil)))))))) h
theorem st__law_names (a0 a1 : A) (st : Sto) : m__law_names [a0, a1] st = fin (b__law_names [some a0, some a1, none, none] st) := rfl

/-! ### _law_terms -/
abbrev s__law_terms : Stmt := topS 63
theorem sc__law_terms : FnScope ["bag", "most", "slack"] ["bag"] (defScope s__law_terms) := ⟨rfl, rfl, rfl, by decide +kernel, rfl, by decide +kernel, by decide +kernel⟩

noncomputable def b__law_terms : MS := (sSeq (sAsg (mOp oIxD (mLst (mCons (mC (.int 9)) (mCons (mC (.int 60)) (mCons (mC (.int 999)) mNil)))) (mCall 2 m__law_take (mCons (mVar 0) (mCons (mC (.int 3)) mNil)))) (mgName 1))
 (sSeq (sAsg (mOp oIxD (mLst (mCons (mC (.int 0)) (mCons (mC (.int 1)) (mCons (mC (.int 49)) (mCons (mC (.int 50)) (mCons (mC (.int 10)) (mCons (mC (.int 51)) mNil))))))) (mCall 2 m__law_take (mCons (mVar 0) (mCons (mC (.int 6)) mNil)))) (mgName 2))
 (sSeq (sIf (mTest (mOp oEqX (mVar 2) (mC (.int 51))))
 (sAsg (mCall 2 m__law_take (mCons (mVar 0) (mCons (mC (.int 51)) mNil))) (mgName 2))
 sNext)
 (sRet (mTup (mCons (mOp oAddX (mC (.int 2)) (mCall 2 m__law_take (mCons (mVar 0) (mCons (mVar 1) mNil)))) (mCons (mVar 2) mNil)))))))
noncomputable def m__law_terms : List A → Sto → Res A := runB 3 b__law_terms
theorem ok__law_terms {f : Addr} {fd : FuncData} (F : Fun K "_law_terms" "_law_terms" s__law_terms f fd) (gm : mg "_law_terms" = some (.ref f)) (N : Fre K mg) (c__law_take : C8.Cal P w K mg base 1 "_law_take" (spN K w 2 m__law_take) []) : C8.Cal P w K mg base 2 "_law_terms" (spN K w 1 m__law_terms) [] := by
  refine mkCal F gm sc__law_terms (F.binds (ps := ["bag"]) fun _ _ _ _ _ _ us hl => match us, hl with | [_], _ => rfl) (fun vs H Q E h => ?_) (fun cdv A outer s H vs Q E hr h => ?_)
  · obtain ⟨_, _, _, hl, _⟩ := h
    exact hl
  · refine ⟨_, (pss_cons (ps_set (i := 1) sc__law_terms.nd rfl (.inl rfl) (pe_ix (show IxR _ (rIxAny K) from dIx) (pe_lst (pa_cons pe_int (pa_cons pe_int (pa_cons pe_int pa_nil)))) (C8.pe_c c__law_take hr (by decide) rfl (pa_cons (pv 0) (pa_cons pe_int pa_nil))) (fun _ _ => rfl)))
 (pss_cons (ps_set (i := 2) sc__law_terms.nd rfl (.inl rfl) (pe_ix (show IxR _ (rIxAny K) from dIx) (pe_lst (pa_cons pe_int (pa_cons pe_int (pa_cons pe_int (pa_cons pe_int (pa_cons pe_int (pa_cons pe_int pa_nil))))))) (C8.pe_c c__law_take hr (by decide) rfl (pa_cons (pv 0) (pa_cons pe_int pa_nil))) (fun _ _ => rfl)))
 (pss_cons (ps_if (pt_cmpR (show OpR _ _ (rEqX K) from (dEqX hr.units)) (pv 2) pe_int (nomark _))
 (pss_one (ps_set (i := 2) sc__law_terms.nd rfl (.inl rfl) (C8.pe_c c__law_take hr (by decide) rfl (pa_cons (pv 0) (pa_cons pe_int pa_nil)))))
 pss_nil)
 (pss_one (ps_ret (pe_tup (pa_cons (pe_op (show OpR _ _ (rAddX K) from dAddX) pe_int (C8.pe_c c__law_take hr (by decide) rfl (pa_cons (pv 0) (pa_cons (pv 1) pa_nil)))) (pa_cons (pv 2) pa_nil)))))))), ?_⟩
    exact spN_body (b := b__law_terms) (show RS K w WF _ b__law_terms from (rs_seq (rs_asg (re_op r2_ixD (re_lst (ra_cons re_int (ra_cons re_int (ra_cons re_int ra_nil)))) (re_call (ra_cons (re_var (i := 0)) (ra_cons re_int ra_nil)))) (rg_name (i := 1) (vs := [1]) (by decide)))
 (rs_seq (rs_asg (re_op r2_ixD (re_lst (ra_cons re_int (ra_cons re_int (ra_cons re_int (ra_cons re_int (ra_cons re_int (ra_cons re_int ra_nil))))))) (re_call (ra_cons (re_var (i := 0)) (ra_cons re_int ra_nil)))) (rg_name (i := 2) (vs := [2]) (by decide)))
 (rs_seq (rs_if (rt_test (re_op r2_eqX (re_var (i := 2)) re_int))
 (rs_asg (re_call (ra_cons (re_var (i := 0)) (ra_cons re_int ra_nil))) (rg_name (i := 2) (vs := [2]) (by decide)))
 rs_next)
 (rs_ret (re_tup (ra_cons (re_op r2_addX re_int (re_call (ra_cons (re_var (i := 0)) (ra_cons (re_var (i := 1)) ra_nil)))) (ra_cons (re_var (i := 2)) ra_nil)))))))) h
theorem st__law_terms (a0 : A) (st : Sto) : m__law_terms [a0] st = fin (b__law_terms [some a0, none, none] st) := rfl

/-! ### _law_setup -/
abbrev s__law_setup : Stmt := topS 60
theorem sc__law_setup : FnScope ["bag", "slow", "long", "slack", "name", "some", "least", "folk", "rate"] ["bag", "slow"] (defScope s__law_setup) := ⟨rfl, rfl, rfl, by decide +kernel, rfl, by decide +kernel, by decide +kernel⟩
noncomputable def lb__law_setup_1 : MS := (sSeq (sAsg (mOp oIxD (mLst (mCons (mC (.int 100)) (mCons (mVar 6) (mCons (mC (.int 0)) mNil)))) (mCall 2 m__law_take (mCons (mVar 0) (mCons (mC (.int 3)) mNil)))) (mgName 8))
 (sSeq (sIf (mTest (mOp oEqX (mVar 8) (mC (.int 0))))
 (sAsg (mOp oAddX (mVar 6) (mCall 2 m__law_take (mCons (mVar 0) (mCons (mOp oSubX (mC (.int 201)) (mVar 6)) mNil)))) (mgName 8))
 sNext)
 (sDrop (mMeth oAppend (mVar 7) (mCons (mTup (mCons (mVar 4) (mCons (mVar 8) (mCons (mCall 2 m__law_take (mCons (mVar 0) (mCons (mC (.int 100)) mNil))) mNil)))) mNil)))))
noncomputable def b__law_setup : MS := (sSeq (sAsg (mCall 1 m__law_terms (mCons (mVar 0) mNil)) (mgTup (mgCons (mgName 2) (mgCons (mgName 3) mgNil))))
 (sSeq (sAsg (mLc (miL (mCall 2 m__law_names (mCons (mVar 0) (mCons (mOp oAddX (mC (.int 1)) (mOp oIxD (mLst (mCons (mC (.int 0)) (mCons (mC (.int 0)) (mCons (mC (.int 1)) (mCons (mC (.int 2)) mNil))))) (mCall 2 m__law_take (mCons (mVar 0) (mCons (mC (.int 4)) mNil))))) mNil)))) (mgName 4) mYes (mTup (mCons (mVar 4) (mCons (mOp oAddX (mC (.int 1)) (mCall 2 m__law_take (mCons (mVar 0) (mCons (mC (.int 4)) mNil)))) mNil))) [4]) (mgName 5))
 (sSeq (sAsg (mOp oIxD (mLst (mCons (mOp oSubX (mC (.int 100)) (mVar 3)) (mCons (mC (.int 50)) mNil))) (mVar 1)) (mgName 6))
 (sSeq (sAsg (mLst mNil) (mgName 7))
 (sSeq (sFor (miL (mCall 2 m__law_names (mCons (mVar 0) (mCons (mOp oAddX (mC (.int 1)) (mOp oIxD (mLst (mCons (mC (.int 1)) (mCons (mC (.int 2)) (mCons (mC (.int 2)) (mCons (mC (.int 3)) (mCons (mC (.int 3)) (mCons (mC (.int 0)) mNil))))))) (mCall 2 m__law_take (mCons (mVar 0) (mCons (mC (.int 6)) mNil))))) mNil)))) (mgName 4)
 lb__law_setup_1)
 (sRet (mTup (mCons (mCB oTuple (mCons (mVar 5) mNil)) (mCons (mCB oTuple (mCons (mVar 7) mNil)) (mCons (mVar 2) (mCons (mVar 3) mNil)))))))))))
noncomputable def m__law_setup : List A → Sto → Res A := runB 9 b__law_setup
theorem ok__law_setup {f : Addr} {fd : FuncData} (F : Fun K "_law_setup" "_law_setup" s__law_setup f fd) (gm : mg "_law_setup" = some (.ref f)) (N : Fre K mg) (c__law_names : C8.Cal P w K mg base 3 "_law_names" (spN K w 2 m__law_names) []) (c__law_take : C8.Cal P w K mg base 1 "_law_take" (spN K w 2 m__law_take) []) (c__law_terms : C8.Cal P w K mg base 2 "_law_terms" (spN K w 1 m__law_terms) []) : C8.Cal P w K mg base 4 "_law_setup" (spN K w 2 m__law_setup) [] := by
  refine mkCal F gm sc__law_setup (F.binds (ps := ["bag", "slow"]) fun _ _ _ _ _ _ us hl => match us, hl with | [_, _], _ => rfl) (fun vs H Q E h => ?_) (fun cdv A outer s H vs Q E hr h => ?_)
  · obtain ⟨_, _, _, hl, _⟩ := h
    exact hl
  · refine ⟨_, (pss_cons (ps_asg (C8.pe_c c__law_terms hr (by decide) rfl (pa_cons (pv 0) pa_nil)) (pg_tup rfl (pgs_cons (pg_name (i := 2) sc__law_setup.nd rfl (.inl rfl)) (pgs_cons (pg_name (i := 3) sc__law_setup.nd rfl (.inl rfl)) pgs_nil))))
 (pss_cons (ps_setLc (i := 5) (own := [("name", 4)]) (g := gName 4) (tt := tYes) rfl sc__law_setup.nd rfl rfl (sw_true rfl rfl rfl (by decide +kernel)) (pi_list (C8.pe_c c__law_names hr (by decide) rfl (pa_cons (pv 0) (pa_cons (pe_op (show OpR _ _ (rAddX K) from dAddX) pe_int (pe_ix (show IxR _ (rIxAny K) from dIx) (pe_lst (pa_cons pe_int (pa_cons pe_int (pa_cons pe_int (pa_cons pe_int pa_nil))))) (C8.pe_c c__law_take hr (by decide) rfl (pa_cons (pv 0) (pa_cons pe_int pa_nil))) (fun _ _ => rfl))) pa_nil)))) (blkOk_by (N := ["bag", "slow", "long", "slack", "name", "some", "least", "folk", "rate"]) (sc := defScope s__law_setup) (by decide +kernel)) (fun _ _ _ _ _ => pg_name (i := 4) sc__law_setup.nd rfl (Or.inl rfl)) (fun _ _ _ _ _ => pts_nil) (fun _ _ _ _ _ => (pe_tup (pa_cons (pv 4) (pa_cons (pe_op (show OpR _ _ (rAddX K) from dAddX) pe_int (C8.pe_c c__law_take hr (by decide) rfl (pa_cons (pv 0) (pa_cons pe_int pa_nil)))) pa_nil)))))
 (pss_cons (ps_set (i := 6) sc__law_setup.nd rfl (.inl rfl) (pe_ix (show IxR _ (rIxAny K) from dIx) (pe_lst (pa_cons (pe_op (show OpR _ _ rSubX from dSubX) pe_int (pv 3)) (pa_cons pe_int pa_nil))) (pv 1) (fun _ _ => rfl)))
 (pss_cons (ps_set (i := 7) sc__law_setup.nd rfl (.inl rfl) (pe_lst pa_nil))
 (pss_cons (ps_for PassesOwn.never rfl (pi_list (C8.pe_c c__law_names hr (by decide) rfl (pa_cons (pv 0) (pa_cons (pe_op (show OpR _ _ (rAddX K) from dAddX) pe_int (pe_ix (show IxR _ (rIxAny K) from dIx) (pe_lst (pa_cons pe_int (pa_cons pe_int (pa_cons pe_int (pa_cons pe_int (pa_cons pe_int (pa_cons pe_int pa_nil))))))) (C8.pe_c c__law_take hr (by decide) rfl (pa_cons (pv 0) (pa_cons pe_int pa_nil))) (fun _ _ => rfl))) pa_nil)))) (pg_name (i := 4) sc__law_setup.nd rfl (.inl rfl))
 (pss_cons (ps_set (i := 8) sc__law_setup.nd rfl (.inl rfl) (pe_ix (show IxR _ (rIxAny K) from dIx) (pe_lst (pa_cons pe_int (pa_cons (pv 6) (pa_cons pe_int pa_nil)))) (C8.pe_c c__law_take hr (by decide) rfl (pa_cons (pv 0) (pa_cons pe_int pa_nil))) (fun _ _ => rfl)))
 (pss_cons (ps_if (pt_cmpR (show OpR _ _ (rEqX K) from (dEqX hr.units)) (pv 8) pe_int (nomark _))
 (pss_one (ps_set (i := 8) sc__law_setup.nd rfl (.inl rfl) (pe_op (show OpR _ _ (rAddX K) from dAddX) (pv 6) (C8.pe_c c__law_take hr (by decide) rfl (pa_cons (pv 0) (pa_cons (pe_op (show OpR _ _ rSubX from dSubX) pe_int (pv 6)) pa_nil))))))
 pss_nil)
 (pss_one (ps_expr (pe_bm PySem.F.plainAttrs_list PySem.F.slot_list_append PySem.F.type_list_append mt_append (pv 7) (pa_cons (pe_tup (pa_cons (pv 4) (pa_cons (pv 8) (pa_cons (C8.pe_c c__law_take hr (by decide) rfl (pa_cons (pv 0) (pa_cons pe_int pa_nil))) pa_nil)))) pa_nil)))))))
 (pss_one (ps_ret (pe_tup (pa_cons (pe_callTy (show CallR _ _ (rTupOf K) from call_tuple_of) (by rfl) N.tuple (by decide +kernel) (pa_cons (pv 5) pa_nil)) (pa_cons (pe_callTy (show CallR _ _ (rTupOf K) from call_tuple_of) (by rfl) N.tuple (by decide +kernel) (pa_cons (pv 7) pa_nil)) (pa_cons (pv 2) (pa_cons (pv 3) pa_nil)))))))))))), ?_⟩
    exact spN_body (b := b__law_setup) (show RS K w WF _ b__law_setup from (rs_seq (rs_asg (re_call (ra_cons (re_var (i := 0)) ra_nil)) (rg_tup (mgs_lenS (mgs_lenS mgs_len0)) (rgs_cons (rg_name (i := 2) (vs := [2, 3]) (by decide)) (rgs_cons (rg_name (i := 3) (vs := [2, 3]) (by decide)) rgs_nil))))
 (rs_seq (rs_asg (re_lc (ri_list (re_call (ra_cons (re_var (i := 0)) (ra_cons (re_op r2_addX re_int (re_op r2_ixD (re_lst (ra_cons re_int (ra_cons re_int (ra_cons re_int (ra_cons re_int ra_nil))))) (re_call (ra_cons (re_var (i := 0)) (ra_cons re_int ra_nil))))) ra_nil)))) (rg_name (i := 4) (vs := [4]) (by decide)) rt_yes (re_tup (ra_cons (re_var (i := 4)) (ra_cons (re_op r2_addX re_int (re_call (ra_cons (re_var (i := 0)) (ra_cons re_int ra_nil)))) ra_nil)))) (rg_name (i := 5) (vs := [5]) (by decide)))
 (rs_seq (rs_asg (re_op r2_ixD (re_lst (ra_cons (re_op r2_subX re_int (re_var (i := 3))) (ra_cons re_int ra_nil))) (re_var (i := 1))) (rg_name (i := 6) (vs := [6]) (by decide)))
 (rs_seq (rs_asg (re_lst ra_nil) (rg_name (i := 7) (vs := [7]) (by decide)))
 (rs_seq (rs_for (ri_list (re_call (ra_cons (re_var (i := 0)) (ra_cons (re_op r2_addX re_int (re_op r2_ixD (re_lst (ra_cons re_int (ra_cons re_int (ra_cons re_int (ra_cons re_int (ra_cons re_int (ra_cons re_int ra_nil))))))) (re_call (ra_cons (re_var (i := 0)) (ra_cons re_int ra_nil))))) ra_nil)))) (rg_name (i := 4) (vs := [4]) (by decide))
 (rs_seq (rs_asg (re_op r2_ixD (re_lst (ra_cons re_int (ra_cons (re_var (i := 6)) (ra_cons re_int ra_nil)))) (re_call (ra_cons (re_var (i := 0)) (ra_cons re_int ra_nil)))) (rg_name (i := 8) (vs := [8]) (by decide)))
 (rs_seq (rs_if (rt_test (re_op r2_eqX (re_var (i := 8)) re_int))
 (rs_asg (re_op r2_addX (re_var (i := 6)) (re_call (ra_cons (re_var (i := 0)) (ra_cons (re_op r2_subX re_int (re_var (i := 6))) ra_nil)))) (rg_name (i := 8) (vs := [8]) (by decide)))
 rs_next)
 (rs_drop (re_meth rm_append (re_var (i := 7)) (ra_cons (re_tup (ra_cons (re_var (i := 4)) (ra_cons (re_var (i := 8)) (ra_cons (re_call (ra_cons (re_var (i := 0)) (ra_cons re_int ra_nil))) ra_nil)))) ra_nil))))))
 (rs_ret (re_tup (ra_cons (re_cb rl_tuple (ra_cons (re_var (i := 5)) ra_nil)) (ra_cons (re_cb rl_tuple (ra_cons (re_var (i := 7)) ra_nil)) (ra_cons (re_var (i := 2)) (ra_cons (re_var (i := 3)) ra_nil)))))))))))) h
theorem st__law_setup (a0 a1 : A) (st : Sto) : m__law_setup [a0, a1] st = fin (b__law_setup [some a0, some a1, none, none, none, none, none, none, none] st) := rfl


/-! ### mirrors: dicts whose keys are tuples of texts and numbers -/
section
variable {w : World} {W : WishX} {X : Cx}
theorem key_ofT {pins : List (Addr × Obj)} {σ : L2.St} {H : Hp} {s : Shared} {b : Addr} {k : List Key} (I : Inv X pins σ H s) (h : SqT X.K H b (k.map kV)) : (tupleKind (mixKind X.prog X.w)).is s.heap k b := by
  obtain ⟨its, r, ⟨o, ho, hc, n, hd⟩, _⟩ := I.tuple h
  exact ⟨o, its.toArray, n, ho, hc, hd, by simpa using items_are r⟩
/-- a tuple in such a dict, or not -/
def tTIn (K : PySem.W.Frag) (neg : Bool) (ty td : TE) : TE := fun σ H Q => ty σ H fun y H1 => td σ H1 fun x H2 => ∃ a kvs k b, x = .ref a ∧ Rd H2 a (.dT kvs) ∧ y = .ref b ∧ SqT K H2 b (k.map kV) ∧ Q (.bl ((valV kvs k).isSome != neg)) H2
variable {i o : Expr} {ty td : TE}
theorem pc_tin (hu : X.A.units + 1 < cLine) (hi : PE X i ty) (ho : PE X o td) : PC X .In i o (tTIn X.K false ty td) := by
  refine ⟨fun pins s σ H Q I h => ?_⟩
  refine thn (hi.run pins s σ H _ I h) fun iv s1 ⟨y, H1, I1, ry, q1⟩ => thn (ho.run pins s1 σ H1 _ I1 q1) fun u s2 ⟨x, H2, I2, rx, a, kvs, k, b, ex, e, ey, eb, q2⟩ => ?_
  subst ex ey
  obtain rfl : u = Value.ref a := rx
  cases (show iv = Value.ref b from ry)
  obtain ⟨z, hd, xs, rel, dd⟩ := dt_rd I2.hok e
  refine wpAny_in_heap (tupleKind_room_in1 hu) (key_ofT I2 eb) hd dd ?_
  have q := (rel.val k).isSome_eq
  rw [Option.isSome_map] at q
  rw [← q]
  rw [Bool.bne_false] at q2
  exact ⟨.bl (valV kvs k).isSome, H2, I2.tok _, rfl, q2⟩
theorem pc_tnotin (hu : X.A.units + 1 < cLine) (hi : PE X i ty) (ho : PE X o td) : PC X .NotIn i o (tTIn X.K true ty td) := by
  refine ⟨fun pins s σ H Q I h => ?_⟩
  refine thn (hi.run pins s σ H _ I h) fun iv s1 ⟨y, H1, I1, ry, q1⟩ => thn (ho.run pins s1 σ H1 _ I1 q1) fun u s2 ⟨x, H2, I2, rx, a, kvs, k, b, ex, e, ey, eb, q2⟩ => ?_
  subst ex ey
  obtain rfl : u = Value.ref a := rx
  cases (show iv = Value.ref b from ry)
  obtain ⟨z, hd, xs, rel, dd⟩ := dt_rd I2.hok e
  refine wpAny_notIn_heap (tupleKind_room_in1 hu) (key_ofT I2 eb) hd dd ?_
  have q := (rel.val k).isSome_eq
  rw [Option.isSome_map] at q
  rw [← q]
  rw [Bool.bne_true] at q2
  exact ⟨.bl (!(valV kvs k).isSome), H2, I2.tok _, rfl, q2⟩
def keysL : List A → Option (List Key)
  | [] => some []
  | x :: xs => (keyA x).bind fun k => (keysL xs).map (k :: ·)
def keysA : A → Option (List Key)
  | .tup xs => keysL xs
  | _ => none
theorem keysL_is {H : Hp} {ρ : List Addr} : ∀ {vs : List V} {xs : List A} {ks : List Key}, Rvs K H ρ vs xs → keysL xs = some ks → vs = ks.map kV
  | _, _, _, .nil, e => by cases e; rfl
  | _, _, _, .cons h hs, e => by
    unfold keysL at e
    obtain ⟨k, e1, e2⟩ := Option.bind_eq_some_iff.mp e
    obtain ⟨cs, e3, rfl⟩ := Option.map_eq_some_iff.mp e2
    rw [keysL_is hs e3, key_is h e1]
    rfl
theorem keysA_is {H : Hp} {ρ : List Addr} {v : V} {a : A} {ks : List Key} (h : Rv K H ρ v a) (e : keysA a = some ks) : ∃ b, v = .ref b ∧ SqT K H b (ks.map kV) := by
  cases h with
  | tup h hs =>
    rw [← keysL_is hs e]
    exact ⟨_, rfl, h⟩
  | _ => cases e
def gT (n : Nat) (o : Option AO) : Option (Nat × List (List Key × A)) := match o with
  | some (.dT kvs) => some (n, kvs)
  | _ => none
def getDT (st : Sto) : A → Option (Nat × List (List Key × A))
  | .ref n => gT n st[n]?
  | _ => none
theorem getDT_is {ρ : List Addr} {H : Hp} {st : Sto} {v : V} {a : A} {n : Nat} {kvs : List (List Key × A)} (rel : Rel K w ρ H st) (h : Rv K H ρ v a) (e : getDT st a = some (n, kvs)) : ∃ p kv, v = .ref p ∧ ρ[n]? = some p ∧ H p = some (.dT kv) ∧ Rkv K H ρ kv kvs := by
  cases h with
  | ref h =>
    rename_i m p
    have e : gT m st[m]? = some (n, kvs) := e
    unfold gT at e
    split at e
    · rename_i kvs' e'
      cases e
      obtain ⟨kv, h1, h2⟩ := rel.get h e'
      exact ⟨_, kv, rfl, h, h1, h2⟩
    · cases e
  | _ => cases e
def mDNewT : ME := fun _ st => newO (.dT []) st
theorem re_dnewT : RE K w W tDNewT mDNewT := fun ρ H st σ env Q rel re p q nq => by
  obtain ⟨e, r⟩ := rel.new (o := .dT []) (u := .dT []) nq fun H' e' h' => ⟨[], h', .nil⟩
  exact p.giveAt e r (.ref (rel.last q))
def tiKK (neg : Bool) (o : Option (Nat × List (List Key × A))) (k : Option (List Key)) (s : Sto) : Res A := match o, k with
  | some (_, kvs), some k => .ok (.bl ((valA kvs k).isSome != neg)) s
  | _, _ => .no
def mTIn (neg : Bool) (f g : ME) : ME := fun env st => (f env st).bind fun y s1 => (g env s1).bind fun x s2 => tiKK neg (getDT s2 x) (keysA y) s2
theorem re_tin {neg : Bool} {f g : ME} (hf : RE K w W ty f) (hg : RE K w W td g) : RE K w W (tTIn K neg ty td) (mTIn neg f g) := fun ρ H st σ env Q rel re p =>
  hf.use rel re p fun a s1 ρ1 H1 x e1 r1 v1 p1 => hg.use r1 (re.ext e1) p1 fun b s2 ρ2 H2 y e2 r2 v2 p2 => by
    unfold tiKK at p2
    split at p2
    · rename_i n kvs k em ek
      obtain ⟨q, kv, rfl, hq, h1, h2⟩ := getDT_is r2 v2 em
      obtain ⟨b, rfl, hb⟩ := keysA_is (rv_ext e2 v1) ek
      exact ⟨q, kv, k, b, rfl, .inl h1, rfl, hb, by
        rw [isSome_is h2]
        exact p2.give r2 (.bl _)⟩
    · exact p2.elim
/-- d[x, y] = v -/
def dptK (o : Option (Nat × List (List Key × A))) (k : Option (List Key)) (v : A) (env : AEnv) (s : Sto) : RF := match o, k with
  | some (n, kvs), some k => if kvs.length < sizeLine ∧ k.length ≤ sizeLine then .fl (.nx env) (s.set n (.dT (putA kvs k v))) else .no
  | _, _ => .no
def sDPutT (f : ME) (g : MA) (h : ME) : MS := fun env st => (h env st).thenS env fun v s1 => (f env s1).thenS env fun x s2 => (g env s2).thenS env fun ys s3 => dptK (getDT s3 x) (keysL ys) v env s3
theorem RA.useS {ta : TA} {f : MA} {k : List A → Sto → RF} {ρ : List Addr} {H : Hp} {st : Sto} {σ : L2.St} {env : AEnv} {D : Ends} {Q : List V → Hp → Prop} (h : RA K w W ta f) (rel : Rel K w ρ H st) (re : Renv K H ρ σ env) (p : PostS K w ρ H ((f env st).thenS env k) D W)
    (go : ∀ a s1 ρ1 H1 v, Ext ρ ρ1 H H1 → Rel K w ρ1 H1 s1 → Rvs K H1 ρ1 v a → PostS K w ρ1 H1 (k a s1) D W → Q v H1) : ta σ H Q := by
  refine h ρ H st σ env Q rel re ?_
  cases e : f env st with
  | ok a s1 =>
    rw [e] at p
    exact fun ρ1 H1 e1 r1 vs hv => go a s1 ρ1 H1 vs e1 r1 hv (PostS.ext p e1)
  | ex c d s1 =>
    rw [e] at p
    exact fun ρ1 H1 dx e1 r1 hd => p ρ1 H1 σ dx e1 r1 (re.ext e1) hd
  | no => rw [e] at p; exact p
theorem rs_dputT {ta : TA} {tv : TE} {f : ME} {g : MA} {h : ME} (hf : RE K w W td f) (hg : RA K w W ta g) (hh : RE K w W tv h) : RS K w W (sDPut td (tTup ta) tv) (sDPutT f g h) := fun ρ H st σ env D rel re p =>
  hh.useS rel re p fun a s1 ρ1 H1 x e1 r1 v1 p1 => hf.useS r1 (re.ext e1) p1 fun b s2 ρ2 H2 y e2 r2 v2 p2 => hg.useS r2 (re.ext (e1.trans e2)) p2 fun c s3 ρ3 H3 z e3 r3 v3 p3 => by
    unfold dptK at p3
    split at p3
    · rename_i n kvs k em ek
      obtain ⟨q, kv, rfl, hq, h1, h2⟩ := getDT_is r3 (rv_ext e3 v2) em
      cases keysL_is v3 ek
      split at p3
      · rename_i hl
        refine ⟨by rw [List.length_map]; exact hl.2, fun t nt => ?_⟩
        have sm := same_upd (o := .tup (k.map kV)) nt
        have r4 := r3.same sm
        have e4 : Ext ρ3 ρ3 H3 (upd H3 t (.tup (k.map kV))) := Ext.same sm
        have hv := rv_ext (e2.trans (e3.trans e4)) v1
        obtain ⟨e5, r5⟩ := r4.put (o := .dT (putA kvs k a)) (u := .dT (putK kv k x)) hq fun H' e' h' => ⟨_, h', rkv_ext e' (putA_is hv (rkv_ext e4 h2))⟩
        exact ⟨q, _, rfl, DPut.t (sm _ _ h1) upd_same (by rw [kv_len h2]; exact hl.1), p3 ρ3 _ σ (e4.trans e5) r5 (re.ext (e1.trans (e2.trans (e3.trans (e4.trans e5)))))⟩
      · exact p3.elim
    · exact p3.elim
end

/-! ### mirrors: {k: v, ..} -/
section
variable {w : World} {W : WishX}
abbrev MP := AEnv → Sto → Res (List (Key × A))
def RP (K : PySem.W.Frag) (w : World) (W : WishX) (trs : List (TE × TE)) (f : MP) : Prop := ∀ ρ H st σ env Q, Rel K w ρ H st → Renv K H ρ σ env → Post K w ρ H (f env st) (fun kvs _ ρ' H' => ∀ kv, Rkv K H' ρ' kv kvs → Q (kv.map fun q => (kV q.1, q.2)) H') (W · · σ ·) → tPairs trs σ H Q
def mpNil : MP := fun _ st => .ok [] st
theorem rp_nil : RP K w W [] mpNil := fun ρ H st σ env Q rel re p => p ρ H (Ext.refl _ _) rel [] .nil
def pcK (r : MP) (env : AEnv) (y : A) (k : Option Key) (s : Sto) : Res (List (Key × A)) := match k with
  | some k => (r env s).bind fun kvs s1 => .ok ((k, y) :: kvs) s1
  | none => .no
def mpCons (f g : ME) (r : MP) : MP := fun env st => (f env st).bind fun x s1 => (g env s1).bind fun y s2 => pcK r env y (keyA x) s2
theorem rp_cons {tk tv : TE} {trs : List (TE × TE)} {f g : ME} {r : MP} (hf : RE K w W tk f) (hg : RE K w W tv g) (hr : RP K w W trs r) : RP K w W ((tk, tv) :: trs) (mpCons f g r) := fun ρ H st σ env Q rel re p =>
  hf.use rel re p fun a s1 ρ1 H1 x e1 r1 v1 p1 => hg.use r1 (re.ext e1) p1 fun b s2 ρ2 H2 y e2 r2 v2 p2 => by
    unfold pcK at p2
    split at p2
    · rename_i k ek
      cases key_is v1 ek
      refine hr ρ2 H2 s2 σ env _ r2 (re.ext (e1.trans e2)) ?_
      cases e : r env s2 with
      | ok kvs s3 =>
        rw [e] at p2
        intro ρ3 H3 e3 r3 kv hkv
        exact p2 ρ3 H3 e3 r3 ((k, y) :: kv) (.cons ⟨rfl, rv_ext e3 v2⟩ hkv)
      | ex c d s3 => rw [e] at p2; exact p2
      | no => rw [e] at p2; exact p2
    · exact p2.elim
def mergeA (kvs more : List (Key × A)) : List (Key × A) := more.foldl (fun acc kv => putA acc kv.1 kv.2) kvs
theorem mergeA_is {H : Hp} {ρ : List Addr} : ∀ {more : List (Key × V)} {moreA : List (Key × A)} {kv : List (Key × V)} {kvs : List (Key × A)}, Rkv K H ρ more moreA → Rkv K H ρ kv kvs → Rkv K H ρ (mergeK kv more) (mergeA kvs moreA)
  | _, _, _, _, .nil, h => h
  | (k1, v1) :: more, (k2, a2) :: moreA, kv, kvs, .cons h hs, g => by
    obtain ⟨e1, e2⟩ := h
    cases (e1 : k1 = k2)
    show Rkv K H ρ (mergeK (putK kv k1 v1) more) (mergeA (putA kvs k1 a2) moreA)
    exact mergeA_is hs (putA_is e2 g)
def dsK (n : Nat) (kvs : List (Key × A)) (s : Sto) : Res A := match s[n]? with
  | some (.dK []) => if kvs.length ≤ 15 then .ok (.ref n) (s.set n (.dK (mergeA [] kvs))) else .no
  | _ => .no
def mDisp (f : MP) : ME := fun env st => (f env (st ++ [.dK []])).bind fun kvs s => dsK st.length kvs s
theorem re_disp {trs : List (TE × TE)} {f : MP} (hf : RP K w W trs f) : RE K w W (tDisp trs) (mDisp f) := fun ρ H st σ env Q rel re p t nt => by
  obtain ⟨e1, r1⟩ := rel.new (o := .dK []) (u := .dK []) nt fun H' e' h' => ⟨[], h', .nil⟩
  have hD := rel.last t
  have p : Post K w ρ H ((f env (st ++ [.dK []])).bind fun kvs s => dsK st.length kvs s) _ _ := p
  refine hf (ρ ++ [t]) _ _ σ env _ r1 (re.ext e1) ?_
  cases e : f env (st ++ [.dK []]) with
  | no => rw [e] at p; exact p
  | ex c d s1 =>
    rw [e] at p
    exact fun ρ1 H1 dx e2 r2 hd => p ρ1 H1 dx (e1.trans e2) r2 hd
  | ok kvs s1 =>
    rw [e] at p
    intro ρ2 H2 e2 r2 kv hkv
    have p : Post K w ρ H (dsK st.length kvs s1) _ _ := p
    unfold dsK at p
    split at p
    · rename_i es
      obtain ⟨kv0, h1, h2⟩ := r2.get (e2.get hD) es
      cases h2
      split at p
      · rename_i hl
        obtain ⟨e3, r3⟩ := r2.put (o := .dK (mergeA [] kvs)) (u := .dK (mergeK [] kv)) (e2.get hD) fun H' e' h' => ⟨_, h', rkv_ext e' (mergeA_is hkv .nil)⟩
        exact ⟨h1, kv, rfl, by rw [kv_len hkv]; exact hl, p.giveAt (e1.trans (e2.trans e3)) r3 (.ref (e3.get (e2.get hD)))⟩
      · exact p.elim
    · exact p.elim
end

/-! ### mirrors: what the dicts' operations give -/
section
variable {env : AEnv} {st s : Sto} {a b : A} {i : Int} {x : Str} {n : Nat} {kvs : List (Key × A)} {tvs : List (List Key × A)} {k : Key} {ks : List Key} {xs : List A} {f g h : ME}
theorem ev_dnew : mDNew env st = newO (.dK []) st := rfl
theorem ev_dnewT : mDNewT env st = newO (.dT []) st := rfl
theorem ev_dgetE : mDGet f g env st = (f env st).bind fun x s1 => (g env s1).bind fun y s2 => dgK (getD s2 x) (keyA y) s2 := rfl
theorem ev_getD : getD st (.ref n) = gD n st[n]? := rfl
theorem ev_gD : gD n (some (.dK kvs)) = some (n, kvs) := rfl
theorem ev_keyI : keyA (.int i) = some (.inl i) := rfl
theorem ev_keyS : keyA (.str x) = some (.inr x) := rfl
theorem ev_dgK : dgK (some (n, kvs)) (some k) s = lift (valA kvs k) s := rfl
theorem ev_dinE {c : Bool} : mDIn c f g env st = (f env st).bind fun y s1 => (g env s1).bind fun x s2 => diK c (getD s2 x) (keyA y) s2 := rfl
theorem ev_diK {c : Bool} : diK c (some (n, kvs)) (some k) s = .ok (.bl ((valA kvs k).isSome != c)) s := rfl
theorem ev_dputE : sDPutM f g h env st = (h env st).thenS env fun v s1 => (f env s1).thenS env fun x s2 => (g env s2).thenS env fun y s3 => dpK (getD s3 x) (keyA y) v env s3 := rfl
theorem ev_dpK : dpK (some (n, kvs)) (some k) a env s = if kvs.length < sizeLine then .fl (.nx env) (s.set n (.dK (putA kvs k a))) else .no := rfl
theorem ev_dget2E : mDGet2 f g h env st = (f env st).bind fun x s1 => if isDA s1 x = true then (g env s1).bind fun y s2 => (h env s2).bind fun z s3 => dg2K (getD s3 x) (keyA y) z s3 else .no := rfl
theorem ev_isDA : isDA st (.ref n) = (gD n st[n]?).isSome := rfl
theorem ev_isSome {α : Type} {c : α} : (some c).isSome = true := rfl
theorem ev_isNone {α : Type} : (none : Option α).isSome = false := rfl
theorem ev_dg2K : dg2K (some (n, kvs)) (some k) a s = .ok ((valA kvs k).getD a) s := rfl
theorem ev_dpop2E : mDPop2 f g h env st = (f env st).bind fun x s1 => if isDA s1 x = true then (g env s1).bind fun y s2 => (h env s2).bind fun z s3 => dp2K (getD s3 x) (keyA y) z s3 else .no := rfl
def dp3 (o : Option A) (n : Nat) (kvs : List (Key × A)) (k : Key) (z : A) (s : Sto) : Res A := match o with
  | some v => .ok v (s.set n (.dK (dropA kvs k)))
  | none => .ok z s
theorem ev_dp2K : dp2K (some (n, kvs)) (some k) a s = dp3 (valA kvs k) n kvs k a s := by
  unfold dp2K dp3
  rfl
theorem ev_dp3S : dp3 (some b) n kvs k a s = .ok b (s.set n (.dK (dropA kvs k))) := rfl
theorem ev_dp3N : dp3 none n kvs k a s = .ok a s := rfl
theorem ev_sortedE : oSorted [a] st = srO (getL st a) (getD st a) st := rfl
theorem ev_srO1 {d : Option (Nat × List (Key × A))} : srO (some xs) d st = srK (strsOf xs) (intsOf xs) st := rfl
theorem ev_srO2 : srO none (some (n, kvs)) st = srK (keyS kvs) (keyI kvs) st := rfl
theorem ev_gLd : gL (some (.dK kvs)) = none := rfl
theorem ev_srKS {ss : List Str} {oi : Option (List Int)} : srK (some ss) oi st = if ss.length < 64 then newO (.lst ((sortS ss).map A.str)) st else .no := rfl
theorem ev_srKI {ns : List Int} : srK none (some ns) st = if ns.length < 64 then newO (.lst ((sortI ns).map A.int)) st else .no := rfl
theorem ev_gDT : getDT st (.ref n) = gT n st[n]? := rfl
theorem ev_gT : gT n (some (.dT tvs)) = some (n, tvs) := rfl
theorem ev_tinE {c : Bool} : mTIn c f g env st = (f env st).bind fun y s1 => (g env s1).bind fun x s2 => tiKK c (getDT s2 x) (keysA y) s2 := rfl
theorem ev_tiKK {c : Bool} : tiKK c (some (n, tvs)) (some ks) s = .ok (.bl ((valA tvs ks).isSome != c)) s := rfl
theorem ev_keysA : keysA (.tup xs) = keysL xs := rfl
theorem ev_keysN : keysL [] = some [] := rfl
theorem ev_keysC : keysL (a :: xs) = (keyA a).bind fun k => (keysL xs).map (k :: ·) := rfl
theorem ev_dputTE {m : MA} : sDPutT f m h env st = (h env st).thenS env fun v s1 => (f env s1).thenS env fun x s2 => (m env s2).thenS env fun ys s3 => dptK (getDT s3 x) (keysL ys) v env s3 := rfl
theorem ev_dptK : dptK (some (n, tvs)) (some ks) a env s = if tvs.length < sizeLine ∧ ks.length ≤ sizeLine then .fl (.nx env) (s.set n (.dT (putA tvs ks a))) else .no := rfl
theorem ev_dispE {m : MP} : mDisp m env st = (m env (st ++ [.dK []])).bind fun kvs s => dsK st.length kvs s := rfl
theorem ev_mpN : mpNil env st = .ok [] st := rfl
theorem ev_mpC {m : MP} : mpCons f g m env st = (f env st).bind fun x s1 => (g env s1).bind fun y s2 => pcK m env y (keyA x) s2 := rfl
theorem ev_pcK {m : MP} : pcK m env a (some k) s = (m env s).bind fun kvs s1 => .ok ((k, a) :: kvs) s1 := rfl
def dsK2 (o : Option AO) (n : Nat) (kvs : List (Key × A)) (s : Sto) : Res A := match o with
  | some (.dK []) => if kvs.length ≤ 15 then .ok (.ref n) (s.set n (.dK (mergeA [] kvs))) else .no
  | _ => .no
theorem ev_dsK : dsK n kvs s = dsK2 s[n]? n kvs s := rfl
theorem ev_dsK2 : dsK2 (some (.dK [])) n kvs s = if kvs.length ≤ 15 then .ok (.ref n) (s.set n (.dK (mergeA [] kvs))) else .no := rfl
theorem ev_lc2E {mi mi1 : MI} {m m1 : MG} {tt tt1 : MT} {vs vs1 : List Nat} : mLc2 mi m tt mi1 m1 tt1 f vs vs1 env st = (mi env st).bind fun xo s => lc2L s.length xo.2 m tt mi1 m1 tt1 f (wipeA env vs) vs1 xo.1 (s ++ [.lst []]) := rfl
end

/-! ### mirrors: what is never run, texts taken apart, f-strings, starred items, every second item -/
section
variable {X : Cx} {w : World} {W : WishX}
/-! what is never run -/
theorem pe_imp {e : Expr} : PE X e (fun _ _ _ => False) := ⟨fun _ _ _ _ _ _ z => z.elim⟩
theorem ps_imp {e : Stmt} : PS X e (fun _ _ _ => False) := ⟨fun _ _ _ _ _ _ z => z.elim⟩
def mImp : ME := fun _ _ => .no
def sImp : MS := fun _ _ => .no
theorem re_imp : RE K w W (fun _ _ _ => False) mImp := fun ρ H st σ env Q rel re p => p
theorem rs_imp : RS K w W (fun _ _ _ => False) sImp := fun ρ H st σ env D rel re p => p
theorem ev_imp {env : AEnv} {st : Sto} : mImp env st = .no := rfl
theorem ev_simp {env : AEnv} {st : Sto} : sImp env st = .no := rfl
/-! split -/
def splG (z y : A) (s : Sto) : Res A := match z, y with
  | .str a, .str b => if (b.length == 0) = false ∧ a.length + 2 ≤ sizeLine then newO (.lst ((Txt.split a b).map A.str)) s else .no
  | _, _ => .no
def splF (g : ME) (env : AEnv) (z : A) (s1 : Sto) : Res A := match z with
  | .str a => (g env s1).bind fun y s => splG (.str a) y s
  | _ => .no
def mSplit (f g : ME) : ME := fun env st => (f env st).bind (splF g env)
theorem rvs_strs {ρ : List Addr} {H : Hp} : ∀ {ys : List Str}, Rvs K H ρ (ys.map V.str) (ys.map A.str)
  | [] => .nil
  | y :: ys => .cons (.str y) rvs_strs
theorem re_split {t u : TE} {f g : ME} (hf : RE K w W t f) (hg : RE K w W u g) : RE K w W (tM1 (fun x xs H Q => ∃ a b, x = .str a ∧ xs = [.str b] ∧ (b.length == 0) = false ∧ a.length + 2 ≤ sizeLine ∧ rNewStrs (Txt.split a b) H Q) t u) (mSplit f g) := fun ρ H st σ env Q rel re p =>
  hf.use rel re p fun z s1 ρ1 H1 x e1 r1 v1 p1 => by
    unfold splF at p1
    split at p1
    · rename_i c
      cases v1
      refine ⟨⟨_, rfl⟩, hg.use r1 (re.ext e1) p1 fun a s2 ρ2 H2 y e2 r2 v2 p2 => ?_⟩
      unfold splG at p2
      split at p2
      · rename_i c1 b h1
        cases h1
        cases v2
        split at p2
        · rename_i hc
          exact ⟨_, _, rfl, rfl, hc.1, hc.2, fun q nq => post_newL r2 rvs_strs p2 q nq⟩
        · exact p2.elim
      · exact p2.elim
    · exact p1.elim
/-- join inside a comprehension: the frame by its name -/
theorem pe_joinK {K : PySem.W.Frag} {o e : Expr} {to te : TE} {apos pos : Pos} (ho : PE X o to) (he : PE X e te) (hK : X.K = K := by rfl) (hs : starEach [e] X.env = [(false, eval e X.env)] := by rfl) (hbase : attributeBase o "join" X.env (eval o X.env) = eval o X.env := by rfl) (hline : (apos.endLine == pos.line) = true := by rfl) :
    PE X (.Call (.Attribute o "join" apos) [e] [] pos) (tM1 (fun x xs H Q => ∃ a p, ∃ ys : List Str, x = .str a ∧ xs = [.ref p] ∧ (SqL K H p (ys.map V.str) ∨ SqT K H p (ys.map V.str)) ∧ (ys.map (·.length)).sum + ys.length * a.length ≤ 16777216 ∧ Q (.str (Txt.join a ys)) H) to te) := by
  subst hK
  exact pe_join ho he hs hbase hline
/-! f-strings -/
def fmtK (a : A) (s : Sto) : Res A := match a with
  | .str y => if y.length ≤ sizeLine then .ok (.str y) s else .no
  | .int i => if i.natAbs.log2 < 1920 then .ok (.str (toString i)) s else .no
  | _ => .no
def mFmt (f : ME) : ME := fun env st => (f env st).bind fmtK
theorem re_fmt {t : TE} {f : ME} (hf : RE K w W t f) : RE K w W (tFmt t) (mFmt f) := fun ρ H st σ env Q rel re p =>
  hf.use rel re p fun z s1 ρ1 H1 x e1 r1 v1 p1 => by
    unfold fmtK at p1
    split at p1
    · cases v1
      split at p1
      · rename_i h
        exact .inl ⟨_, rfl, h, p1.give r1 (.str _)⟩
      · exact p1.elim
    · cases v1
      split at p1
      · rename_i h
        exact .inr ⟨_, rfl, h, p1.give r1 (.str _)⟩
      · exact p1.elim
    · exact p1.elim
inductive RJ (K : PySem.W.Frag) (w : World) (W : WishX) : List TE → List ME → Prop where
  | nil : RJ K w W [] []
  | cons {t : TE} {f : ME} {ts : List TE} {fs : List ME} (h : RE K w W t f) (r : RJ K w W ts fs) : RJ K w W (t :: ts) (f :: fs)
def addK (acc : Str) (a : A) (k : Str → Sto → Res A) (s : Sto) : Res A := match a with
  | .str y => if (acc ++ y).length ≤ sizeLine then k (acc ++ y) s else .no
  | _ => .no
def mJs (env : AEnv) : List ME → Str → Sto → Res A
  | [], acc, st => .ok (.str acc) st
  | f :: fs, acc, st => (f env st).bind fun a s => addK acc a (mJs env fs) s
def mJoined (fs : List ME) : ME := fun env st => mJs env fs Str.empty st
theorem rj_run {ts : List TE} {fs : List ME} (h : RJ K w W ts fs) : ∀ (ρ : List Addr) (H : Hp) (st : Sto) (σ : L2.St) (env : AEnv) (Q : VK) (acc : Str), Rel K w ρ H st → Renv K H ρ σ env →
    Post K w ρ H (mJs env fs acc st) (fun a _ ρ' H' => ∀ v, Rv K H' ρ' v a → Q v H') (W · · σ ·) → tJs ts acc σ H fun out H1 => Q (.str out) H1 := by
  induction h with
  | nil => exact fun ρ H st σ env Q acc rel re p => p.give rel (.str _)
  | cons h r ih =>
    intro ρ H st σ env Q acc rel re p
    refine h.use rel re p fun a s1 ρ1 H1 x e1 r1 v1 p1 => ?_
    unfold addK at p1
    split at p1
    · cases v1
      split at p1
      · rename_i hl
        exact ⟨_, rfl, hl, ih ρ1 H1 s1 σ env Q _ r1 (re.ext e1) p1⟩
      · exact p1.elim
    · exact p1.elim
theorem re_joined {ts : List TE} {fs : List ME} (h : RJ K w W ts fs) : RE K w W (fun σ H Q => tJs ts Str.empty σ H fun out H1 => Q (.str out) H1) (mJoined fs) := fun ρ H st σ env Q rel re p => rj_run h ρ H st σ env Q Str.empty rel re p
/-! starred items -/
def starK (o : Option (List A)) (g : MA) (env : AEnv) (s : Sto) : Res (List A) := match o with
  | some xs => (g env s).bind fun ys s2 => .ok (xs ++ ys) s2
  | none => .no
def mStar (f : ME) (g : MA) : MA := fun env st => (f env st).bind fun x s => starK (getS s x) g env s
theorem ra_star {t : TE} {u : TA} {f : ME} {g : MA} (hf : RE K w W t f) (hg : RA K w W u g) : RA K w W (StX.tStar K t u) (mStar f g) := fun ρ H st σ env Q rel re p =>
  hf.use rel re p fun a s1 ρ1 H1 x e1 r1 v1 p1 => by
    unfold starK at p1
    split at p1
    · rename_i xs e
      obtain ⟨q, vs, rfl, h1, h2⟩ := getS_sq r1 v1 e
      refine ⟨q, vs, rfl, h1.symm, hg.use r1 (re.ext e1) p1 fun as s2 ρ2 H2 ys e2 r2 v2 p2 => ?_⟩
      exact p2 ρ2 H2 (Ext.refl _ _) r2 _ ((rvs_ext e2 h2).append v2)
    · exact p1.elim
/-! every second of eight items -/
def pick2 {α : Type} (xs : List α) (lo : Option Int) : Option (List α) := match xs, lo with
  | [a, _, c, _, e, _, g, _], none => some [a, c, e, g]
  | [_, b, _, d, _, f, _, h], some 1 => some [b, d, f, h]
  | _, _ => none
def tEach2 (K : PySem.W.Frag) (te : TE) (tl : TO) : TE := fun σ H Q => te σ H fun x H1 => tl σ H1 fun lo H2 => ∃ a xs ys, x = .ref a ∧ SqL K H2 a xs ∧ pick2 xs lo = some ys ∧ ∀ p, H2 p = none → Q (.ref p) (upd H2 p (.lst ys))
theorem pick2_is {vs : List V} {lo : Option Int} {ys : List V} {its : List Value} (r : Vals vs its) (e : pick2 vs lo = some ys) : ys.length = 4 ∧ ∃ its', (slicePick its.toArray lo none (some 2)) = its'.toArray ∧ Vals ys its' := by
  unfold pick2 at e
  split at e
  · cases e
    cases r with | cons r0 r => cases r with | cons r1 r => cases r with | cons r2 r => cases r with | cons r3 r => cases r with | cons r4 r => cases r with | cons r5 r => cases r with | cons r6 r => cases r with | cons r7 r =>
      cases r
      refine ⟨rfl, _, ?_, .cons r0 (.cons r2 (.cons r4 (.cons r6 .nil)))⟩
      have q : sliceRange (sliceBounds none none (some 2) 8).1 (sliceBounds none none (some 2) 8).2.1 (sliceBounds none none (some 2) 8).2.2 = [0, 2, 4, 6] := by decide
      unfold slicePick
      rw [show (List.toArray [_, _, _, _, _, _, _, _] : Array Value).size = 8 from rfl, q]
      rfl
  · cases e
    cases r with | cons r0 r => cases r with | cons r1 r => cases r with | cons r2 r => cases r with | cons r3 r => cases r with | cons r4 r => cases r with | cons r5 r => cases r with | cons r6 r => cases r with | cons r7 r =>
      cases r
      refine ⟨rfl, _, ?_, .cons r1 (.cons r3 (.cons r5 (.cons r7 .nil)))⟩
      have q : sliceRange (sliceBounds (some 1) none (some 2) 8).1 (sliceBounds (some 1) none (some 2) 8).2.1 (sliceBounds (some 1) none (some 2) 8).2.2 = [1, 3, 5, 7] := by decide
      unfold slicePick
      rw [show (List.toArray [_, _, _, _, _, _, _, _] : Array Value).size = 8 from rfl, q]
      rfl
  · cases e
theorem pe_each2 {e : Expr} {lo : Option Expr} {te : TE} {tl : TO} {k : Nat} {p1 p3 pos : Pos} (he : PE X e te) (hl : PO X lo tl)
    (hops : ∀ a b, subscripted (.Slice lo none (some (.Constant (.int 2) k p1)) p3) false (.ref a) (.ref b) = operate [.ref a, .ref b] (getItem (.ref a) (.ref b)) := by intro _ _; with_unfolding_all rfl) : PE X (.Subscript e (.Slice lo none (some (.Constant (.int 2) k p1)) p3) pos) (tEach2 X.K te tl) := by
  have two : PO X (some (.Constant (.int 2) k p1)) (tPart (tC (.int 2))) := po_some pe_int
  constructor
  intro pins s σ H Q I h
  apply Subscript_
  refine thn (he.run pins s σ H _ I h) ?_
  rintro v s1 ⟨x, H1, I1, r1, q1⟩
  apply wpAny_Slice
  refine thn (hl.run pins s1 σ H1 _ I1 q1) ?_
  rintro vl s2 ⟨l, H2, I2, pl, a, xs, ys, rfl, hx, hp, q⟩
  cases r1
  refine thn (po_none.run pins s2 σ H2 (fun o H3 => o = none ∧ H3 = H2) I2 ⟨rfl, rfl⟩) ?_
  rintro vu s3 ⟨u, _, I3, pu, rfl, rfl⟩
  refine thn (two.run pins s3 σ _ (fun o H4 => o = some 2 ∧ H4 = _) I3 ⟨2, rfl, rfl, rfl⟩) ?_
  rintro vs s4 ⟨o, _, I4, ps, rfl, rfl⟩
  have I5 := I4.kept (h' := s4.heap.push { cls := .type "slice", data := .fields #[vl, vu, vs] }) (t' := s4.toks) fun b ob q => Heap.get?_push_of_some _ q
  obtain ⟨its, r, ht, hz⟩ := I5.list hx
  have hlen := r.length
  obtain ⟨h4, its', e, r'⟩ := pick2_is r hp
  show wpAny (model X.prog X.w) X.A (subscriptTail _ _ (.ref a) (.ref s4.heap.objs.size)) (EP X pins σ Q) X.xe _
  refine tail_any (ops := [.ref a, .ref s4.heap.objs.size]) ht.isList.typeIs (PySem.slot_list_getitem.lookup) ?_ (hops _ _)
  refine wpAny_getItem_list_slice ht.isList (Heap.IsSliceOf.new _ vl vu vs) pl pu ps (by decide) ?_ (by rw [List.size_toArray]; omega)
  rw [e]
  refine ⟨.ref _, _, I5.laid (t' := s4.toks) (o := .lst ys) (fun b ob q => Heap.get?_push_of_some _ q) (Nat.le_refl _) ?_, rfl, q _ (I5.hok.fresh (Nat.le_refl _))⟩
  exact ⟨by rw [h4]; decide, _, 0, r', Heap.get?_push_size _ rfl⟩
theorem pick2_rv {ρ : List Addr} {H : Hp} {lo : Option Int} {vs : List V} {xs ys : List A} (r : Rvs K H ρ vs xs) (e : pick2 xs lo = some ys) : ∃ us, pick2 vs lo = some us ∧ Rvs K H ρ us ys := by
  unfold pick2 at e
  split at e
  · cases e
    cases r with | cons r0 r => cases r with | cons r1 r => cases r with | cons r2 r => cases r with | cons r3 r => cases r with | cons r4 r => cases r with | cons r5 r => cases r with | cons r6 r => cases r with | cons r7 r =>
      cases r
      exact ⟨_, rfl, .cons r0 (.cons r2 (.cons r4 (.cons r6 .nil)))⟩
  · cases e
    cases r with | cons r0 r => cases r with | cons r1 r => cases r with | cons r2 r => cases r with | cons r3 r => cases r with | cons r4 r => cases r with | cons r5 r => cases r with | cons r6 r => cases r with | cons r7 r =>
      cases r
      exact ⟨_, rfl, .cons r1 (.cons r3 (.cons r5 (.cons r7 .nil)))⟩
  · cases e
def each2K (o : Option (List A)) (lo : Option Int) (s : Sto) : Res A := match o with
  | some xs => match pick2 xs lo with
    | some ys => newO (.lst ys) s
    | none => .no
  | none => .no
def mEach2 (f : ME) (l : MO) : ME := fun env st => (f env st).bind fun x s1 => (l env s1).bind fun lo s2 => each2K (getL s2 x) lo s2
theorem re_each2 {t : TE} {tl : TO} {f : ME} {l : MO} (hf : RE K w W t f) (hl : RO K w W tl l) : RE K w W (tEach2 K t tl) (mEach2 f l) := fun ρ H st σ env Q rel re p =>
  hf.use rel re p fun a s1 ρ1 H1 x e1 r1 v1 p1 => hl.use r1 (re.ext e1) p1 fun lo s2 ρ2 H2 e2 r2 p2 => by
    unfold each2K at p2
    split at p2
    · rename_i xs e
      obtain ⟨q, vs, rfl, h1, h2⟩ := getL_sq r2 (rv_ext e2 v1) e
      split at p2
      · rename_i ys e3
        obtain ⟨us, e4, h3⟩ := pick2_rv h2 e3
        exact ⟨q, vs, us, rfl, h1, e4, fun z nz => post_newL r2 h3 p2 z nz⟩
      · exact p2.elim
    · exact p2.elim
/-! names set from a list -/
def unlK (o : Option (List A)) (g : MGs) (env : AEnv) (s : Sto) : RF := match o with
  | some xs => asgO (g xs env) s
  | none => .no
def sUnl (f : ME) (g : MGs) : MS := fun env st => (f env st).thenS env fun a s => unlK (getL s a) g env s
theorem rs_unl {t : TE} {gs : TGs} {f : ME} {ms : MGs} {vs : List Nat} {n : Nat} (hf : RE K w W t f) (hl : ∀ as env e, ms as env = some e → as.length = n) (hg : RGns K gs ms vs) : RS K w W (tAsg t (gUnl K n gs)) (sUnl f ms) := fun ρ H st σ env D rel re p =>
  hf.useS rel re p fun a s1 ρ1 H1 x e1 r1 v1 p1 => by
    unfold unlK at p1
    split at p1
    · rename_i xs e
      obtain ⟨q, us, rfl, h1, h2⟩ := getL_sq r1 v1 e
      cases em : ms xs env with
      | none => rw [em] at p1; exact p1.elim
      | some e2 =>
        rw [em] at p1
        refine ⟨q, us, rfl, h1, by rw [h2.length]; exact hl _ _ _ em, hg H1 ρ1 σ env us xs _ (re.ext e1) h2 ?_⟩
        rw [em]
        exact fun σ' re' _ => p1 ρ1 H1 σ' (Ext.refl _ _) r1 re'
    · exact p1.elim
/-! int of a text, str of a text -/
def oIntS : List A → Sto → Res A := fun as st => match as with
  | [.str z] => if z.length ≤ 640 then (match PySem.intText? z with
    | some n => .ok (.int n) st
    | none => .no) else .no
  | _ => .no
def rIntS : RL := fun xs H Q => ∃ a n, xs = [.str a] ∧ PySem.intText? a = some n ∧ a.length ≤ 640 ∧ Q (.int n) H
theorem rl_intS : RLok K w rIntS oIntS := fun ρ H st vs as Q X rel ra p => by
  unfold oIntS at p
  split at p
  · split at p
    · rename_i hl
      split at p
      · rename_i n e
        cases ra with | cons ra r =>
          cases r
          cases ra
          exact ⟨_, n, rfl, e, hl, p.give rel (.int _)⟩
      · exact p.elim
    · exact p.elim
  · exact p.elim
def rStrY : RL := lOr rStrX (fun xs H Q => ∃ a, xs = [.str a] ∧ Q (.str a) H)
theorem call_strY : CallR X (.type "str") rStrY := CallR.or call_strX SkE.call_str_str
def oStrY : List A → Sto → Res A := fun as st => match as with
  | [.str z] => .ok (.str z) st
  | as => oStrX as st
theorem rl_strY : RLok K w rStrY oStrY := fun ρ H st vs as Q X rel ra p => by
  unfold oStrY at p
  split at p
  · cases ra with | cons ra r =>
      cases r
      cases ra
      exact .inr ⟨_, rfl, p.give rel (.str _)⟩
  · exact .inl (rl_strX ρ H st vs _ Q X rel ra p)
end
section
variable {a b : A} {env : AEnv} {st s : Sto} {f g : ME} {h : MA} {l : MO} {z y : Str} {i : Int} {xs ys : List A} {fs : List ME} {k : Str → Sto → Res A} {lo : Option Int}
theorem ev_split : mSplit f g env st = (f env st).bind (splF g env) := rfl
theorem ev_splF : splF g env (.str z) st = (g env st).bind fun y s => splG (.str z) y s := rfl
theorem ev_splG : splG (.str z) (.str y) s = if (y.length == 0) = false ∧ z.length + 2 ≤ sizeLine then newO (.lst ((Txt.split z y).map A.str)) s else .no := rfl
theorem ev_fmt : mFmt f env st = (f env st).bind fmtK := rfl
theorem ev_fmtS : fmtK (.str z) s = if z.length ≤ sizeLine then .ok (.str z) s else .no := rfl
theorem ev_fmtI : fmtK (.int i) s = if i.natAbs.log2 < 1920 then .ok (.str (toString i)) s else .no := rfl
theorem ev_addK : addK z (.str y) k s = if (z ++ y).length ≤ sizeLine then k (z ++ y) s else .no := rfl
theorem ev_js0 : mJs env [] z st = .ok (.str z) st := rfl
theorem ev_js1 : mJs env (f :: fs) z st = (f env st).bind fun a s => addK z a (mJs env fs) s := rfl
theorem ev_joined : mJoined fs env st = mJs env fs Str.empty st := rfl
theorem ev_star : mStar f h env st = (f env st).bind fun x s => starK (getS s x) h env s := rfl
theorem ev_starK : starK (some xs) h env s = (h env s).bind fun ys s2 => .ok (xs ++ ys) s2 := rfl
theorem ev_each2 : mEach2 f l env st = (f env st).bind fun x s1 => (l env s1).bind fun lo s2 => each2K (getL s2 x) lo s2 := rfl
theorem ev_each2K : each2K (some xs) lo s = match pick2 xs lo with
    | some ys => newO (.lst ys) s
    | none => .no := rfl
theorem ev_unl {gs : MGs} : sUnl f gs env st = (f env st).thenS env fun a s => unlK (getL s a) gs env s := rfl
theorem ev_unlK {gs : MGs} : unlK (some xs) gs env s = asgO (gs xs env) s := rfl
theorem ev_intS : oIntS [.str z] s = if z.length ≤ 640 then (match PySem.intText? z with
    | some n => .ok (.int n) s
    | none => .no) else .no := rfl
theorem ev_strYS : oStrY [.str z] s = .ok (.str z) s := rfl
theorem ev_strYI : oStrY [.int i] s = if i.natAbs.log2 < 1920 then .ok (.str (toString i)) s else .no := rfl
end

/-! ### is_whole -/
abbrev s_is_whole : Stmt := topS 24
theorem sc_is_whole : FnScope ["thing"] ["thing"] (defScope s_is_whole) := ⟨rfl, rfl, rfl, by decide +kernel, rfl, by decide +kernel, by decide +kernel⟩

noncomputable def b_is_whole : MS := (sRet (mAnd (mCB oIsi (mCons (mVar 0) (mCons (mC (.ty "int")) mNil))) (mNot (mCB oIsi (mCons (mVar 0) (mCons (mC (.ty "bool")) mNil))))))
noncomputable def m_is_whole : List A → Sto → Res A := runB 1 b_is_whole
theorem ok_is_whole {f : Addr} {fd : FuncData} (F : Fun K "is_whole" "is_whole" s_is_whole f fd) (gm : mg "is_whole" = some (.ref f)) (N : Fre K mg)  : C8.Cal P w K mg base 1 "is_whole" (spN K w 1 m_is_whole) [] := by
  refine mkCal F gm sc_is_whole (F.binds (ps := ["thing"]) fun _ _ _ _ _ _ us hl => match us, hl with | [_], _ => rfl) (fun vs H Q E h => ?_) (fun cdv A outer s H vs Q E hr h => ?_)
  · obtain ⟨_, _, _, hl, _⟩ := h
    exact hl
  · refine ⟨_, (pss_one (ps_ret (pe_and (pe_callB (show CallR _ _ (rIsi K) from call_isi) (by rfl) N.isinstance (by decide +kernel) (pa_cons (pv 0) (pa_cons (pe_bltn (v := .ty "int") (u := .type "int") rfl N.int (by decide +kernel) rfl) pa_nil))) (pe_one (pe_not (pe_callB (show CallR _ _ (rIsi K) from call_isi) (by rfl) N.isinstance (by decide +kernel) (pa_cons (pv 0) (pa_cons (pe_bltn (v := .ty "bool") (u := .type "bool") rfl N.bool (by decide +kernel) rfl) pa_nil)))))))), ?_⟩
    exact spN_body (b := b_is_whole) (show RS K w WF _ b_is_whole from (rs_ret (re_and (re_cb rl_isi (ra_cons (re_var (i := 0)) (ra_cons (re_c fun _ _ => .ty _) ra_nil))) (re_not (re_cb rl_isi (ra_cons (re_var (i := 0)) (ra_cons (re_c fun _ _ => .ty _) ra_nil))))))) h
theorem st_is_whole (a0 : A) (st : Sto) : m_is_whole [a0] st = fin (b_is_whole [some a0] st) := rfl

/-! ### is_within -/
abbrev s_is_within : Stmt := topS 25
theorem sc_is_within : FnScope ["thing", "least", "most"] ["thing", "least", "most"] (defScope s_is_within) := ⟨rfl, rfl, rfl, by decide +kernel, rfl, by decide +kernel, by decide +kernel⟩

noncomputable def b_is_within : MS := (sRet (mAnd (mCall 1 m_is_whole (mCons (mVar 0) mNil)) (mChain oLe oLe (mVar 1) (mVar 0) (mVar 2))))
noncomputable def m_is_within : List A → Sto → Res A := runB 3 b_is_within
theorem ok_is_within {f : Addr} {fd : FuncData} (F : Fun K "is_within" "is_within" s_is_within f fd) (gm : mg "is_within" = some (.ref f)) (N : Fre K mg) (c_is_whole : C8.Cal P w K mg base 1 "is_whole" (spN K w 1 m_is_whole) []) : C8.Cal P w K mg base 2 "is_within" (spN K w 3 m_is_within) [] := by
  refine mkCal F gm sc_is_within (F.binds (ps := ["thing", "least", "most"]) fun _ _ _ _ _ _ us hl => match us, hl with | [_, _, _], _ => rfl) (fun vs H Q E h => ?_) (fun cdv A outer s H vs Q E hr h => ?_)
  · obtain ⟨_, _, _, hl, _⟩ := h
    exact hl
  · refine ⟨_, (pss_one (ps_ret (pe_and (C8.pe_c c_is_whole hr (by decide) rfl (pa_cons (pv 0) pa_nil)) (pe_one (pe_chain (show OpR _ _ rLeD from dLe) (show OpR _ _ rLeD from dLe) (pv 1) (pv 0) (pv 2)))))), ?_⟩
    exact spN_body (b := b_is_within) (show RS K w WF _ b_is_within from (rs_ret (re_and (re_call (ra_cons (re_var (i := 0)) ra_nil)) (re_chain r2_le r2_le (re_var (i := 1)) (re_var (i := 0)) (re_var (i := 2)))))) h
theorem st_is_within (a0 a1 a2 : A) (st : Sto) : m_is_within [a0, a1, a2] st = fin (b_is_within [some a0, some a1, some a2] st) := rfl

/-! ### is_name -/
abbrev s_is_name : Stmt := topS 26
theorem sc_is_name : FnScope ["thing", "sign"] ["thing"] (defScope s_is_name) := ⟨rfl, rfl, rfl, by decide +kernel, rfl, by decide +kernel, by decide +kernel⟩

noncomputable def b_is_name : MS := (sSeq (sIf (mOrT (mNotT (mTest (mCB oIsi (mCons (mVar 0) (mCons (mC (.ty "str")) mNil))))) (mNotT (mTest (mChain oLe oLe (mC (.int 1)) (mCB oLen (mCons (mVar 0) mNil)) (mC (.int 8))))))
 (sRet (mC (.bl false)))
 sNext)
 (sRet (mCB (oAll fun bs => bs.all id) (mCons (mLc (miS (mVar 0)) (mgName 1) mYes (mOp oInX (mVar 1) (mC (.str "abcdefghijklmnopqrstuvwxyz"))) [1]) mNil))))
noncomputable def m_is_name : List A → Sto → Res A := runB 2 b_is_name
theorem ok_is_name {f : Addr} {fd : FuncData} (F : Fun K "is_name" "is_name" s_is_name f fd) (gm : mg "is_name" = some (.ref f)) (N : Fre K mg)  : C8.Cal P w K mg base 1 "is_name" (spN K w 1 m_is_name) [] := by
  refine mkCal F gm sc_is_name (F.binds (ps := ["thing"]) fun _ _ _ _ _ _ us hl => match us, hl with | [_], _ => rfl) (fun vs H Q E h => ?_) (fun cdv A outer s H vs Q E hr h => ?_)
  · obtain ⟨_, _, _, hl, _⟩ := h
    exact hl
  · refine ⟨_, (pss_cons (ps_if (PW.pt (pw_or (pt_not (pt_val (pe_callB (show CallR _ _ (rIsi K) from call_isi) (by rfl) N.isinstance (by decide +kernel) (pa_cons (pv 0) (pa_cons (pe_bltn (v := .ty "str") (u := .type "str") rfl N.str (by decide +kernel) rfl) pa_nil))))) (pw_or1 (pt_not (pt_chain (show OpR _ _ rLeD from dLe) (show OpR _ _ rLeD from dLe) pe_int (pe_callB (show CallR _ _ (rLenAny K) from call_lenAny) (by rfl) N.len (by decide +kernel) (pa_cons (pv 0) pa_nil)) (let ⟨_, h⟩ := N.c_LONGEST_NAME; pe_glob (v := (.int 8)) rfl h ⟨_, rfl⟩))))))
 (pss_one (ps_ret pe_bl))
 pss_nil)
 (pss_one (ps_ret (pe_callB (show CallR _ _ (rAll K) from (cr_all rfl)) (by rfl) N.all (by decide +kernel) (pa_cons (pe_lc (own := [("sign", 1)]) (g := gName 1) (tt := tYes) rfl sc_is_name.nd (pi_str (pv 0)) (blkOk_by (N := ["thing", "sign"]) (sc := defScope s_is_name) (by decide +kernel)) (fun _ _ _ _ _ => pg_name (i := 1) sc_is_name.nd rfl (Or.inl rfl)) (fun _ _ _ _ _ => pts_nil) (fun _ _ _ _ _ => (pe_cmpR (show OpR _ _ (rInX K) from (dInX (hu65 hr))) (pv 1) (let ⟨_, h⟩ := N.c_LETTERS; pe_glob (v := (.str "abcdefghijklmnopqrstuvwxyz")) rfl h ⟨_, rfl⟩) (by with_unfolding_all rfl)))) pa_nil))))), ?_⟩
    exact spN_body (b := b_is_name) (show RS K w WF _ b_is_name from (rs_seq (rs_if (rt_or (rt_not (rt_val (re_cb rl_isi (ra_cons (re_var (i := 0)) (ra_cons (re_c fun _ _ => .ty _) ra_nil))))) (rt_not (rt_test (re_chain r2_le r2_le re_int (re_cb rl_len (ra_cons (re_var (i := 0)) ra_nil)) re_int))))
 (rs_ret re_bl)
 rs_next)
 (rs_ret (re_cb rl_all (ra_cons (re_lc (ri_str (re_var (i := 0))) (rg_name (i := 1) (vs := [1]) (by decide)) rt_yes (re_op r2_inX (re_var (i := 1)) re_str)) ra_nil))))) h
theorem st_is_name (a0 : A) (st : Sto) : m_is_name [a0] st = fin (b_is_name [some a0, none] st) := rfl

/-! ### is_tuple -/
abbrev s_is_tuple : Stmt := topS 27
theorem sc_is_tuple : FnScope ["thing", "least", "most"] ["thing", "least", "most"] (defScope s_is_tuple) := ⟨rfl, rfl, rfl, by decide +kernel, rfl, by decide +kernel, by decide +kernel⟩

noncomputable def b_is_tuple : MS := (sRet (mAnd (mCB oIsi (mCons (mVar 0) (mCons (mC (.ty "tuple")) mNil))) (mChain oLe oLe (mVar 1) (mCB oLen (mCons (mVar 0) mNil)) (mVar 2))))
noncomputable def m_is_tuple : List A → Sto → Res A := runB 3 b_is_tuple
theorem ok_is_tuple {f : Addr} {fd : FuncData} (F : Fun K "is_tuple" "is_tuple" s_is_tuple f fd) (gm : mg "is_tuple" = some (.ref f)) (N : Fre K mg)  : C8.Cal P w K mg base 1 "is_tuple" (spN K w 3 m_is_tuple) [] := by
  refine mkCal F gm sc_is_tuple (F.binds (ps := ["thing", "least", "most"]) fun _ _ _ _ _ _ us hl => match us, hl with | [_, _, _], _ => rfl) (fun vs H Q E h => ?_) (fun cdv A outer s H vs Q E hr h => ?_)
  · obtain ⟨_, _, _, hl, _⟩ := h
    exact hl
  · refine ⟨_, (pss_one (ps_ret (pe_and (pe_callB (show CallR _ _ (rIsi K) from call_isi) (by rfl) N.isinstance (by decide +kernel) (pa_cons (pv 0) (pa_cons (pe_bltn (v := .ty "tuple") (u := .type "tuple") rfl N.tuple (by decide +kernel) rfl) pa_nil))) (pe_one (pe_chain (show OpR _ _ rLeD from dLe) (show OpR _ _ rLeD from dLe) (pv 1) (pe_callB (show CallR _ _ (rLenAny K) from call_lenAny) (by rfl) N.len (by decide +kernel) (pa_cons (pv 0) pa_nil)) (pv 2)))))), ?_⟩
    exact spN_body (b := b_is_tuple) (show RS K w WF _ b_is_tuple from (rs_ret (re_and (re_cb rl_isi (ra_cons (re_var (i := 0)) (ra_cons (re_c fun _ _ => .ty _) ra_nil))) (re_chain r2_le r2_le (re_var (i := 1)) (re_cb rl_len (ra_cons (re_var (i := 0)) ra_nil)) (re_var (i := 2)))))) h
theorem st_is_tuple (a0 a1 a2 : A) (st : Sto) : m_is_tuple [a0, a1, a2] st = fin (b_is_tuple [some a0, some a1, some a2] st) := rfl

/-! ### is_rising -/
abbrev s_is_rising : Stmt := topS 28
theorem sc_is_rising : FnScope ["things", "k"] ["things"] (defScope s_is_rising) := ⟨rfl, rfl, rfl, by decide +kernel, rfl, by decide +kernel, by decide +kernel⟩

noncomputable def b_is_rising : MS := (sRet (mCB (oAll fun bs => bs.all id) (mCons (mLc (miR1 (mCons (mOp oSubX (mCB oLen (mCons (mVar 0) mNil)) (mC (.int 1))) mNil)) (mgName 1) mYes (mOp oLt (mOp oIxD (mVar 0) (mVar 1)) (mOp oIxD (mVar 0) (mOp oAddX (mVar 1) (mC (.int 1))))) [1]) mNil)))
noncomputable def m_is_rising : List A → Sto → Res A := runB 2 b_is_rising
theorem ok_is_rising {f : Addr} {fd : FuncData} (F : Fun K "is_rising" "is_rising" s_is_rising f fd) (gm : mg "is_rising" = some (.ref f)) (N : Fre K mg)  : C8.Cal P w K mg base 1 "is_rising" (spN K w 1 m_is_rising) [] := by
  refine mkCal F gm sc_is_rising (F.binds (ps := ["things"]) fun _ _ _ _ _ _ us hl => match us, hl with | [_], _ => rfl) (fun vs H Q E h => ?_) (fun cdv A outer s H vs Q E hr h => ?_)
  · obtain ⟨_, _, _, hl, _⟩ := h
    exact hl
  · refine ⟨_, (pss_one (ps_ret (pe_callB (show CallR _ _ (rAll K) from (cr_all rfl)) (by rfl) N.all (by decide +kernel) (pa_cons (pe_lc (own := [("k", 1)]) (g := gName 1) (tt := tYes) rfl sc_is_rising.nd (pi_range1 (by rfl) N.range (pa_cons (pe_op (show OpR _ _ rSubX from dSubX) (pe_callB (show CallR _ _ (rLenAny K) from call_lenAny) (by rfl) N.len (by decide +kernel) (pa_cons (pv 0) pa_nil)) pe_int) pa_nil)) (blkOk_by (N := ["things", "k"]) (sc := defScope s_is_rising) (by decide +kernel)) (fun _ _ _ _ _ => pg_name (i := 1) sc_is_rising.nd rfl (Or.inl rfl)) (fun _ _ _ _ _ => pts_nil) (fun _ _ _ _ _ => (pe_cmpR (show OpR _ _ rLtD from dLt) (pe_ix (show IxR _ (rIxAny K) from dIx) (pv 0) (pv 1) (fun _ _ => rfl)) (pe_ix (show IxR _ (rIxAny K) from dIx) (pv 0) (pe_op (show OpR _ _ (rAddX K) from dAddX) (pv 1) pe_int) (fun _ _ => rfl)) (nomark _)))) pa_nil)))), ?_⟩
    exact spN_body (b := b_is_rising) (show RS K w WF _ b_is_rising from (rs_ret (re_cb rl_all (ra_cons (re_lc (ri_range1 (ra_cons (re_op r2_subX (re_cb rl_len (ra_cons (re_var (i := 0)) ra_nil)) re_int) ra_nil)) (rg_name (i := 1) (vs := [1]) (by decide)) rt_yes (re_op r2_lt (re_op r2_ixD (re_var (i := 0)) (re_var (i := 1))) (re_op r2_ixD (re_var (i := 0)) (re_op r2_addX (re_var (i := 1)) re_int)))) ra_nil)))) h
theorem st_is_rising (a0 : A) (st : Sto) : m_is_rising [a0] st = fin (b_is_rising [some a0, none] st) := rfl

/-! ### is_file -/
abbrev s_is_file : Stmt := topS 31
theorem sc_is_file : FnScope ["thing", "name", "pages"] ["thing"] (defScope s_is_file) := ⟨rfl, rfl, rfl, by decide +kernel, rfl, by decide +kernel, by decide +kernel⟩

noncomputable def b_is_file : MS := (sSeq (sIf (mNotT (mTest (mCall 3 m_is_tuple (mCons (mVar 0) (mCons (mC (.int 2)) (mCons (mC (.int 2)) mNil))))))
 (sRet (mC (.bl false)))
 sNext)
 (sSeq (sAsg (mVar 0) (mgTup (mgCons (mgName 1) (mgCons (mgName 2) mgNil))))
 (sRet (mAnd (mCall 1 m_is_name (mCons (mVar 1) mNil)) (mCall 3 m_is_within (mCons (mVar 2) (mCons (mC (.int 1)) (mCons (mC (.int 4)) mNil))))))))
noncomputable def m_is_file : List A → Sto → Res A := runB 3 b_is_file
theorem ok_is_file {f : Addr} {fd : FuncData} (F : Fun K "is_file" "is_file" s_is_file f fd) (gm : mg "is_file" = some (.ref f)) (N : Fre K mg) (c_is_name : C8.Cal P w K mg base 1 "is_name" (spN K w 1 m_is_name) []) (c_is_tuple : C8.Cal P w K mg base 1 "is_tuple" (spN K w 3 m_is_tuple) []) (c_is_within : C8.Cal P w K mg base 2 "is_within" (spN K w 3 m_is_within) []) : C8.Cal P w K mg base 3 "is_file" (spN K w 1 m_is_file) [] := by
  refine mkCal F gm sc_is_file (F.binds (ps := ["thing"]) fun _ _ _ _ _ _ us hl => match us, hl with | [_], _ => rfl) (fun vs H Q E h => ?_) (fun cdv A outer s H vs Q E hr h => ?_)
  · obtain ⟨_, _, _, hl, _⟩ := h
    exact hl
  · refine ⟨_, (pss_cons (ps_if (pt_not (pt_val (C8.pe_c c_is_tuple hr (by decide) rfl (pa_cons (pv 0) (pa_cons pe_int (pa_cons pe_int pa_nil))))))
 (pss_one (ps_ret pe_bl))
 pss_nil)
 (pss_cons (ps_asg (pv 0) (pg_tup rfl (pgs_cons (pg_name (i := 1) sc_is_file.nd rfl (.inl rfl)) (pgs_cons (pg_name (i := 2) sc_is_file.nd rfl (.inl rfl)) pgs_nil))))
 (pss_one (ps_ret (pe_and (C8.pe_c c_is_name hr (by decide) rfl (pa_cons (pv 1) pa_nil)) (pe_one (C8.pe_c c_is_within hr (by decide) rfl (pa_cons (pv 2) (pa_cons pe_int (pa_cons pe_int pa_nil)))))))))), ?_⟩
    exact spN_body (b := b_is_file) (show RS K w WF _ b_is_file from (rs_seq (rs_if (rt_not (rt_val (re_call (ra_cons (re_var (i := 0)) (ra_cons re_int (ra_cons re_int ra_nil))))))
 (rs_ret re_bl)
 rs_next)
 (rs_seq (rs_asg (re_var (i := 0)) (rg_tup (mgs_lenS (mgs_lenS mgs_len0)) (rgs_cons (rg_name (i := 1) (vs := [1, 2]) (by decide)) (rgs_cons (rg_name (i := 2) (vs := [1, 2]) (by decide)) rgs_nil))))
 (rs_ret (re_and (re_call (ra_cons (re_var (i := 1)) ra_nil)) (re_call (ra_cons (re_var (i := 2)) (ra_cons re_int (ra_cons re_int ra_nil))))))))) h
theorem st_is_file (a0 : A) (st : Sto) : m_is_file [a0] st = fin (b_is_file [some a0, none, none] st) := rfl

/-! ### is_client -/
abbrev s_is_client : Stmt := topS 32
theorem sc_is_client : FnScope ["thing", "name", "rate", "ahead"] ["thing"] (defScope s_is_client) := ⟨rfl, rfl, rfl, by decide +kernel, rfl, by decide +kernel, by decide +kernel⟩

noncomputable def b_is_client : MS := (sSeq (sIf (mNotT (mTest (mCall 3 m_is_tuple (mCons (mVar 0) (mCons (mC (.int 3)) (mCons (mC (.int 3)) mNil))))))
 (sRet (mC (.bl false)))
 sNext)
 (sSeq (sAsg (mVar 0) (mgTup (mgCons (mgName 1) (mgCons (mgName 2) (mgCons (mgName 3) mgNil)))))
 (sSeq (sIf (mOrT (mNotT (mTest (mCall 1 m_is_name (mCons (mVar 1) mNil)))) (mTest (mOp oEqX (mVar 1) (mC (.str "server")))))
 (sRet (mC (.bl false)))
 sNext)
 (sRet (mAnd (mCall 3 m_is_within (mCons (mVar 2) (mCons (mC (.int 50)) (mCons (mC (.int 200)) mNil)))) (mCall 3 m_is_within (mCons (mVar 3) (mCons (mC (.int 0)) (mCons (mC (.int 99)) mNil)))))))))
noncomputable def m_is_client : List A → Sto → Res A := runB 4 b_is_client
theorem ok_is_client {f : Addr} {fd : FuncData} (F : Fun K "is_client" "is_client" s_is_client f fd) (gm : mg "is_client" = some (.ref f)) (N : Fre K mg) (c_is_name : C8.Cal P w K mg base 1 "is_name" (spN K w 1 m_is_name) []) (c_is_tuple : C8.Cal P w K mg base 1 "is_tuple" (spN K w 3 m_is_tuple) []) (c_is_within : C8.Cal P w K mg base 2 "is_within" (spN K w 3 m_is_within) []) : C8.Cal P w K mg base 3 "is_client" (spN K w 1 m_is_client) [] := by
  refine mkCal F gm sc_is_client (F.binds (ps := ["thing"]) fun _ _ _ _ _ _ us hl => match us, hl with | [_], _ => rfl) (fun vs H Q E h => ?_) (fun cdv A outer s H vs Q E hr h => ?_)
  · obtain ⟨_, _, _, hl, _⟩ := h
    exact hl
  · refine ⟨_, (pss_cons (ps_if (pt_not (pt_val (C8.pe_c c_is_tuple hr (by decide) rfl (pa_cons (pv 0) (pa_cons pe_int (pa_cons pe_int pa_nil))))))
 (pss_one (ps_ret pe_bl))
 pss_nil)
 (pss_cons (ps_asg (pv 0) (pg_tup rfl (pgs_cons (pg_name (i := 1) sc_is_client.nd rfl (.inl rfl)) (pgs_cons (pg_name (i := 2) sc_is_client.nd rfl (.inl rfl)) (pgs_cons (pg_name (i := 3) sc_is_client.nd rfl (.inl rfl)) pgs_nil)))))
 (pss_cons (ps_if (PW.pt (pw_or (pt_not (pt_val (C8.pe_c c_is_name hr (by decide) rfl (pa_cons (pv 1) pa_nil)))) (pw_or1 (pt_cmpR (show OpR _ _ (rEqX K) from (dEqX hr.units)) (pv 1) (let ⟨_, h⟩ := N.c_SERVER; pe_glob (v := (.str "server")) rfl h ⟨_, rfl⟩) (nomark _)))))
 (pss_one (ps_ret pe_bl))
 pss_nil)
 (pss_one (ps_ret (pe_and (C8.pe_c c_is_within hr (by decide) rfl (pa_cons (pv 2) (pa_cons pe_int (pa_cons pe_int pa_nil)))) (pe_one (C8.pe_c c_is_within hr (by decide) rfl (pa_cons (pv 3) (pa_cons pe_int (pa_cons pe_int pa_nil))))))))))), ?_⟩
    exact spN_body (b := b_is_client) (show RS K w WF _ b_is_client from (rs_seq (rs_if (rt_not (rt_val (re_call (ra_cons (re_var (i := 0)) (ra_cons re_int (ra_cons re_int ra_nil))))))
 (rs_ret re_bl)
 rs_next)
 (rs_seq (rs_asg (re_var (i := 0)) (rg_tup (mgs_lenS (mgs_lenS (mgs_lenS mgs_len0))) (rgs_cons (rg_name (i := 1) (vs := [1, 2, 3]) (by decide)) (rgs_cons (rg_name (i := 2) (vs := [1, 2, 3]) (by decide)) (rgs_cons (rg_name (i := 3) (vs := [1, 2, 3]) (by decide)) rgs_nil)))))
 (rs_seq (rs_if (rt_or (rt_not (rt_val (re_call (ra_cons (re_var (i := 1)) ra_nil)))) (rt_test (re_op r2_eqX (re_var (i := 1)) re_str)))
 (rs_ret re_bl)
 rs_next)
 (rs_ret (re_and (re_call (ra_cons (re_var (i := 2)) (ra_cons re_int (ra_cons re_int ra_nil)))) (re_call (ra_cons (re_var (i := 3)) (ra_cons re_int (ra_cons re_int ra_nil)))))))))) h
theorem st_is_client (a0 : A) (st : Sto) : m_is_client [a0] st = fin (b_is_client [some a0, none, none, none] st) := rfl

/-! ### are_files -/
abbrev s_are_files : Stmt := topS 33
theorem sc_are_files : FnScope ["thing", "row"] ["thing"] (defScope s_are_files) := ⟨rfl, rfl, rfl, by decide +kernel, rfl, by decide +kernel, by decide +kernel⟩

noncomputable def b_are_files : MS := (sSeq (sIf (mOrT (mNotT (mTest (mCall 3 m_is_tuple (mCons (mVar 0) (mCons (mC (.int 1)) (mCons (mC (.int 3)) mNil)))))) (mNotT (mTest (mCB (oAll fun bs => bs.all id) (mCons (mLc (miT (mVar 0)) (mgName 1) mYes (mCall 1 m_is_file (mCons (mVar 1) mNil)) [1]) mNil)))))
 (sRet (mC (.bl false)))
 sNext)
 (sRet (mCall 1 m_is_rising (mCons (mLc (miT (mVar 0)) (mgName 1) mYes (mOp oIxD (mVar 1) (mC (.int 0))) [1]) mNil))))
noncomputable def m_are_files : List A → Sto → Res A := runB 2 b_are_files
theorem ok_are_files {f : Addr} {fd : FuncData} (F : Fun K "are_files" "are_files" s_are_files f fd) (gm : mg "are_files" = some (.ref f)) (N : Fre K mg) (c_is_file : C8.Cal P w K mg base 3 "is_file" (spN K w 1 m_is_file) []) (c_is_rising : C8.Cal P w K mg base 1 "is_rising" (spN K w 1 m_is_rising) []) (c_is_tuple : C8.Cal P w K mg base 1 "is_tuple" (spN K w 3 m_is_tuple) []) : C8.Cal P w K mg base 4 "are_files" (spN K w 1 m_are_files) [] := by
  refine mkCal F gm sc_are_files (F.binds (ps := ["thing"]) fun _ _ _ _ _ _ us hl => match us, hl with | [_], _ => rfl) (fun vs H Q E h => ?_) (fun cdv A outer s H vs Q E hr h => ?_)
  · obtain ⟨_, _, _, hl, _⟩ := h
    exact hl
  · refine ⟨_, (pss_cons (ps_if (PW.pt (pw_or (pt_not (pt_val (C8.pe_c c_is_tuple hr (by decide) rfl (pa_cons (pv 0) (pa_cons pe_int (pa_cons pe_int pa_nil)))))) (pw_or1 (pt_not (pt_val (pe_callB (show CallR _ _ (rAll K) from (cr_all rfl)) (by rfl) N.all (by decide +kernel) (pa_cons (pe_lc (own := [("row", 1)]) (g := gName 1) (tt := tYes) rfl sc_are_files.nd (pi_tup (pv 0)) (blkOk_by (N := ["thing", "row"]) (sc := defScope s_are_files) (by decide +kernel)) (fun _ _ _ _ _ => pg_name (i := 1) sc_are_files.nd rfl (Or.inl rfl)) (fun _ _ _ _ _ => pts_nil) (fun _ _ _ _ _ => (C8.pe_c c_is_file hr (by decide) rfl (pa_cons (pv 1) pa_nil)))) pa_nil)))))))
 (pss_one (ps_ret pe_bl))
 pss_nil)
 (pss_one (ps_ret (C8.pe_c c_is_rising hr (by decide) rfl (pa_cons (pe_lc (own := [("row", 1)]) (g := gName 1) (tt := tYes) rfl sc_are_files.nd (pi_tup (pv 0)) (blkOk_by (N := ["thing", "row"]) (sc := defScope s_are_files) (by decide +kernel)) (fun _ _ _ _ _ => pg_name (i := 1) sc_are_files.nd rfl (Or.inl rfl)) (fun _ _ _ _ _ => pts_nil) (fun _ _ _ _ _ => (pe_ix (show IxR _ (rIxAny K) from dIx) (pv 1) pe_int (fun _ _ => rfl)))) pa_nil))))), ?_⟩
    exact spN_body (b := b_are_files) (show RS K w WF _ b_are_files from (rs_seq (rs_if (rt_or (rt_not (rt_val (re_call (ra_cons (re_var (i := 0)) (ra_cons re_int (ra_cons re_int ra_nil)))))) (rt_not (rt_val (re_cb rl_all (ra_cons (re_lc (ri_tup (re_var (i := 0))) (rg_name (i := 1) (vs := [1]) (by decide)) rt_yes (re_call (ra_cons (re_var (i := 1)) ra_nil))) ra_nil)))))
 (rs_ret re_bl)
 rs_next)
 (rs_ret (re_call (ra_cons (re_lc (ri_tup (re_var (i := 0))) (rg_name (i := 1) (vs := [1]) (by decide)) rt_yes (re_op r2_ixD (re_var (i := 1)) re_int)) ra_nil))))) h
theorem st_are_files (a0 : A) (st : Sto) : m_are_files [a0] st = fin (b_are_files [some a0, none] st) := rfl

/-! ### are_clients -/
abbrev s_are_clients : Stmt := topS 34
theorem sc_are_clients : FnScope ["thing", "row"] ["thing"] (defScope s_are_clients) := ⟨rfl, rfl, rfl, by decide +kernel, rfl, by decide +kernel, by decide +kernel⟩

noncomputable def b_are_clients : MS := (sSeq (sIf (mOrT (mNotT (mTest (mCall 3 m_is_tuple (mCons (mVar 0) (mCons (mC (.int 1)) (mCons (mC (.int 4)) mNil)))))) (mNotT (mTest (mCB (oAll fun bs => bs.all id) (mCons (mLc (miT (mVar 0)) (mgName 1) mYes (mCall 1 m_is_client (mCons (mVar 1) mNil)) [1]) mNil)))))
 (sRet (mC (.bl false)))
 sNext)
 (sRet (mCall 1 m_is_rising (mCons (mLc (miT (mVar 0)) (mgName 1) mYes (mOp oIxD (mVar 1) (mC (.int 0))) [1]) mNil))))
noncomputable def m_are_clients : List A → Sto → Res A := runB 2 b_are_clients
theorem ok_are_clients {f : Addr} {fd : FuncData} (F : Fun K "are_clients" "are_clients" s_are_clients f fd) (gm : mg "are_clients" = some (.ref f)) (N : Fre K mg) (c_is_client : C8.Cal P w K mg base 3 "is_client" (spN K w 1 m_is_client) []) (c_is_rising : C8.Cal P w K mg base 1 "is_rising" (spN K w 1 m_is_rising) []) (c_is_tuple : C8.Cal P w K mg base 1 "is_tuple" (spN K w 3 m_is_tuple) []) : C8.Cal P w K mg base 4 "are_clients" (spN K w 1 m_are_clients) [] := by
  refine mkCal F gm sc_are_clients (F.binds (ps := ["thing"]) fun _ _ _ _ _ _ us hl => match us, hl with | [_], _ => rfl) (fun vs H Q E h => ?_) (fun cdv A outer s H vs Q E hr h => ?_)
  · obtain ⟨_, _, _, hl, _⟩ := h
    exact hl
  · refine ⟨_, (pss_cons (ps_if (PW.pt (pw_or (pt_not (pt_val (C8.pe_c c_is_tuple hr (by decide) rfl (pa_cons (pv 0) (pa_cons pe_int (pa_cons pe_int pa_nil)))))) (pw_or1 (pt_not (pt_val (pe_callB (show CallR _ _ (rAll K) from (cr_all rfl)) (by rfl) N.all (by decide +kernel) (pa_cons (pe_lc (own := [("row", 1)]) (g := gName 1) (tt := tYes) rfl sc_are_clients.nd (pi_tup (pv 0)) (blkOk_by (N := ["thing", "row"]) (sc := defScope s_are_clients) (by decide +kernel)) (fun _ _ _ _ _ => pg_name (i := 1) sc_are_clients.nd rfl (Or.inl rfl)) (fun _ _ _ _ _ => pts_nil) (fun _ _ _ _ _ => (C8.pe_c c_is_client hr (by decide) rfl (pa_cons (pv 1) pa_nil)))) pa_nil)))))))
 (pss_one (ps_ret pe_bl))
 pss_nil)
 (pss_one (ps_ret (C8.pe_c c_is_rising hr (by decide) rfl (pa_cons (pe_lc (own := [("row", 1)]) (g := gName 1) (tt := tYes) rfl sc_are_clients.nd (pi_tup (pv 0)) (blkOk_by (N := ["thing", "row"]) (sc := defScope s_are_clients) (by decide +kernel)) (fun _ _ _ _ _ => pg_name (i := 1) sc_are_clients.nd rfl (Or.inl rfl)) (fun _ _ _ _ _ => pts_nil) (fun _ _ _ _ _ => (pe_ix (show IxR _ (rIxAny K) from dIx) (pv 1) pe_int (fun _ _ => rfl)))) pa_nil))))), ?_⟩
    exact spN_body (b := b_are_clients) (show RS K w WF _ b_are_clients from (rs_seq (rs_if (rt_or (rt_not (rt_val (re_call (ra_cons (re_var (i := 0)) (ra_cons re_int (ra_cons re_int ra_nil)))))) (rt_not (rt_val (re_cb rl_all (ra_cons (re_lc (ri_tup (re_var (i := 0))) (rg_name (i := 1) (vs := [1]) (by decide)) rt_yes (re_call (ra_cons (re_var (i := 1)) ra_nil))) ra_nil)))))
 (rs_ret re_bl)
 rs_next)
 (rs_ret (re_call (ra_cons (re_lc (ri_tup (re_var (i := 0))) (rg_name (i := 1) (vs := [1]) (by decide)) rt_yes (re_op r2_ixD (re_var (i := 1)) re_int)) ra_nil))))) h
theorem st_are_clients (a0 : A) (st : Sto) : m_are_clients [a0] st = fin (b_are_clients [some a0, none] st) := rfl

/-! ### is_setup -/
abbrev s_is_setup : Stmt := topS 35
theorem sc_is_setup : FnScope ["thing", "files", "clients", "length", "drift"] ["thing"] (defScope s_is_setup) := ⟨rfl, rfl, rfl, by decide +kernel, rfl, by decide +kernel, by decide +kernel⟩

noncomputable def b_is_setup : MS := (sSeq (sIf (mNotT (mTest (mCall 3 m_is_tuple (mCons (mVar 0) (mCons (mC (.int 4)) (mCons (mC (.int 4)) mNil))))))
 (sRet (mC (.bl false)))
 sNext)
 (sSeq (sAsg (mVar 0) (mgTup (mgCons (mgName 1) (mgCons (mgName 2) (mgCons (mgName 3) (mgCons (mgName 4) mgNil))))))
 (sSeq (sIf (mOrT (mNotT (mTest (mCall 1 m_are_files (mCons (mVar 1) mNil)))) (mNotT (mTest (mCall 1 m_are_clients (mCons (mVar 2) mNil)))))
 (sRet (mC (.bl false)))
 sNext)
 (sRet (mAnd (mCall 3 m_is_within (mCons (mVar 3) (mCons (mC (.int 2)) (mCons (mC (.int 1000)) mNil)))) (mCall 3 m_is_within (mCons (mVar 4) (mCons (mC (.int 0)) (mCons (mC (.int 50)) mNil)))))))))
noncomputable def m_is_setup : List A → Sto → Res A := runB 5 b_is_setup
theorem ok_is_setup {f : Addr} {fd : FuncData} (F : Fun K "is_setup" "is_setup" s_is_setup f fd) (gm : mg "is_setup" = some (.ref f)) (N : Fre K mg) (c_are_clients : C8.Cal P w K mg base 4 "are_clients" (spN K w 1 m_are_clients) []) (c_are_files : C8.Cal P w K mg base 4 "are_files" (spN K w 1 m_are_files) []) (c_is_tuple : C8.Cal P w K mg base 1 "is_tuple" (spN K w 3 m_is_tuple) []) (c_is_within : C8.Cal P w K mg base 2 "is_within" (spN K w 3 m_is_within) []) : C8.Cal P w K mg base 5 "is_setup" (spN K w 1 m_is_setup) [] := by
  refine mkCal F gm sc_is_setup (F.binds (ps := ["thing"]) fun _ _ _ _ _ _ us hl => match us, hl with | [_], _ => rfl) (fun vs H Q E h => ?_) (fun cdv A outer s H vs Q E hr h => ?_)
  · obtain ⟨_, _, _, hl, _⟩ := h
    exact hl
  · refine ⟨_, (pss_cons (ps_if (pt_not (pt_val (C8.pe_c c_is_tuple hr (by decide) rfl (pa_cons (pv 0) (pa_cons pe_int (pa_cons pe_int pa_nil))))))
 (pss_one (ps_ret pe_bl))
 pss_nil)
 (pss_cons (ps_asg (pv 0) (pg_tup rfl (pgs_cons (pg_name (i := 1) sc_is_setup.nd rfl (.inl rfl)) (pgs_cons (pg_name (i := 2) sc_is_setup.nd rfl (.inl rfl)) (pgs_cons (pg_name (i := 3) sc_is_setup.nd rfl (.inl rfl)) (pgs_cons (pg_name (i := 4) sc_is_setup.nd rfl (.inl rfl)) pgs_nil))))))
 (pss_cons (ps_if (PW.pt (pw_or (pt_not (pt_val (C8.pe_c c_are_files hr (by decide) rfl (pa_cons (pv 1) pa_nil)))) (pw_or1 (pt_not (pt_val (C8.pe_c c_are_clients hr (by decide) rfl (pa_cons (pv 2) pa_nil)))))))
 (pss_one (ps_ret pe_bl))
 pss_nil)
 (pss_one (ps_ret (pe_and (C8.pe_c c_is_within hr (by decide) rfl (pa_cons (pv 3) (pa_cons pe_int (pa_cons pe_int pa_nil)))) (pe_one (C8.pe_c c_is_within hr (by decide) rfl (pa_cons (pv 4) (pa_cons pe_int (pa_cons pe_int pa_nil))))))))))), ?_⟩
    exact spN_body (b := b_is_setup) (show RS K w WF _ b_is_setup from (rs_seq (rs_if (rt_not (rt_val (re_call (ra_cons (re_var (i := 0)) (ra_cons re_int (ra_cons re_int ra_nil))))))
 (rs_ret re_bl)
 rs_next)
 (rs_seq (rs_asg (re_var (i := 0)) (rg_tup (mgs_lenS (mgs_lenS (mgs_lenS (mgs_lenS mgs_len0)))) (rgs_cons (rg_name (i := 1) (vs := [1, 2, 3, 4]) (by decide)) (rgs_cons (rg_name (i := 2) (vs := [1, 2, 3, 4]) (by decide)) (rgs_cons (rg_name (i := 3) (vs := [1, 2, 3, 4]) (by decide)) (rgs_cons (rg_name (i := 4) (vs := [1, 2, 3, 4]) (by decide)) rgs_nil))))))
 (rs_seq (rs_if (rt_or (rt_not (rt_val (re_call (ra_cons (re_var (i := 1)) ra_nil)))) (rt_not (rt_val (re_call (ra_cons (re_var (i := 2)) ra_nil)))))
 (rs_ret re_bl)
 rs_next)
 (rs_ret (re_and (re_call (ra_cons (re_var (i := 3)) (ra_cons re_int (ra_cons re_int ra_nil)))) (re_call (ra_cons (re_var (i := 4)) (ra_cons re_int (ra_cons re_int ra_nil)))))))))) h
theorem st_is_setup (a0 : A) (st : Sto) : m_is_setup [a0] st = fin (b_is_setup [some a0, none, none, none, none] st) := rfl

/-! ### number_of -/
abbrev s_number_of : Stmt := topS 41
theorem sc_number_of : FnScope ["word", "sign"] ["word"] (defScope s_number_of) := ⟨rfl, rfl, rfl, by decide +kernel, rfl, by decide +kernel, by decide +kernel⟩

noncomputable def b_number_of : MS := (sSeq (sIf (mOrT (mNotT (mTest (mChain oLe oLe (mC (.int 1)) (mCB oLen (mCons (mVar 0) mNil)) (mC (.int 12))))) (mNotT (mTest (mCB (oAll fun bs => bs.all id) (mCons (mLc (miS (mVar 0)) (mgName 1) mYes (mOp oInX (mVar 1) (mC (.str "0123456789"))) [1]) mNil)))))
 (sRet (mC .non))
 sNext)
 (sSeq (sIf (mAndT (mTest (mOp oEqX (mOp oIxD (mVar 0) (mC (.int 0))) (mC (.str "0")))) (mTest (mOp oNeX (mVar 0) (mC (.str "0")))))
 (sRet (mC .non))
 sNext)
 (sRet (mCB oIntS (mCons (mVar 0) mNil)))))
noncomputable def m_number_of : List A → Sto → Res A := runB 2 b_number_of
theorem ok_number_of {f : Addr} {fd : FuncData} (F : Fun K "number_of" "number_of" s_number_of f fd) (gm : mg "number_of" = some (.ref f)) (N : Fre K mg)  : C8.Cal P w K mg base 1 "number_of" (spN K w 1 m_number_of) [] := by
  refine mkCal F gm sc_number_of (F.binds (ps := ["word"]) fun _ _ _ _ _ _ us hl => match us, hl with | [_], _ => rfl) (fun vs H Q E h => ?_) (fun cdv A outer s H vs Q E hr h => ?_)
  · obtain ⟨_, _, _, hl, _⟩ := h
    exact hl
  · refine ⟨_, (pss_cons (ps_if (PW.pt (pw_or (pt_not (pt_chain (show OpR _ _ rLeD from dLe) (show OpR _ _ rLeD from dLe) pe_int (pe_callB (show CallR _ _ (rLenAny K) from call_lenAny) (by rfl) N.len (by decide +kernel) (pa_cons (pv 0) pa_nil)) (let ⟨_, h⟩ := N.c_MOST_FIGURES; pe_glob (v := (.int 12)) rfl h ⟨_, rfl⟩))) (pw_or1 (pt_not (pt_val (pe_callB (show CallR _ _ (rAll K) from (cr_all rfl)) (by rfl) N.all (by decide +kernel) (pa_cons (pe_lc (own := [("sign", 1)]) (g := gName 1) (tt := tYes) rfl sc_number_of.nd (pi_str (pv 0)) (blkOk_by (N := ["word", "sign"]) (sc := defScope s_number_of) (by decide +kernel)) (fun _ _ _ _ _ => pg_name (i := 1) sc_number_of.nd rfl (Or.inl rfl)) (fun _ _ _ _ _ => pts_nil) (fun _ _ _ _ _ => (pe_cmpR (show OpR _ _ (rInX K) from (dInX (hu65 hr))) (pv 1) (let ⟨_, h⟩ := N.c_FIGURES; pe_glob (v := (.str "0123456789")) rfl h ⟨_, rfl⟩) (by with_unfolding_all rfl)))) pa_nil)))))))
 (pss_one (ps_ret pe_non))
 pss_nil)
 (pss_cons (ps_if (PW.pt (pw_and (pt_cmpR (show OpR _ _ (rEqX K) from (dEqX hr.units)) (pe_ix (show IxR _ (rIxAny K) from dIx) (pv 0) pe_int (fun _ _ => rfl)) pe_str (nomark _)) (pw_and1 (pt_cmpR (show OpR _ _ (rNeX K) from (dNeX hr.units)) (pv 0) pe_str (nomark _)))))
 (pss_one (ps_ret pe_non))
 pss_nil)
 (pss_one (ps_ret (pe_callTy (show CallR _ _ rIntS from call_int_str) (by rfl) N.int (by decide +kernel) (pa_cons (pv 0) pa_nil)))))), ?_⟩
    exact spN_body (b := b_number_of) (show RS K w WF _ b_number_of from (rs_seq (rs_if (rt_or (rt_not (rt_test (re_chain r2_le r2_le re_int (re_cb rl_len (ra_cons (re_var (i := 0)) ra_nil)) re_int))) (rt_not (rt_val (re_cb rl_all (ra_cons (re_lc (ri_str (re_var (i := 0))) (rg_name (i := 1) (vs := [1]) (by decide)) rt_yes (re_op r2_inX (re_var (i := 1)) re_str)) ra_nil)))))
 (rs_ret re_non)
 rs_next)
 (rs_seq (rs_if (rt_and (rt_test (re_op r2_eqX (re_op r2_ixD (re_var (i := 0)) re_int) re_str)) (rt_test (re_op r2_neX (re_var (i := 0)) re_str)))
 (rs_ret re_non)
 rs_next)
 (rs_ret (re_cb rl_intS (ra_cons (re_var (i := 0)) ra_nil)))))) h
theorem st_number_of (a0 : A) (st : Sto) : m_number_of [a0] st = fin (b_number_of [some a0, none] st) := rfl

/-! ### row_of -/
abbrev s_row_of : Stmt := topS 44
theorem sc_row_of : FnScope ["text", "words", "numbers", "word"] ["text"] (defScope s_row_of) := ⟨rfl, rfl, rfl, by decide +kernel, rfl, by decide +kernel, by decide +kernel⟩

noncomputable def b_row_of : MS := (sSeq (sAsg (mSplit (mVar 0) (mC (.str ":"))) (mgName 1))
 (sSeq (sAsg (mLc (miL (mSl oSl (mVar 1) (mPart (mC (.int 1))) mNoPart)) (mgName 3) mYes (mCall 1 m_number_of (mCons (mVar 3) mNil)) [3]) (mgName 2))
 (sRet (mTup (mCons (mOp oIxD (mVar 1) (mC (.int 0))) (mStar (mVar 2) mNil))))))
noncomputable def m_row_of : List A → Sto → Res A := runB 4 b_row_of
theorem ok_row_of {f : Addr} {fd : FuncData} (F : Fun K "row_of" "row_of" s_row_of f fd) (gm : mg "row_of" = some (.ref f)) (N : Fre K mg) (c_number_of : C8.Cal P w K mg base 1 "number_of" (spN K w 1 m_number_of) []) : C8.Cal P w K mg base 2 "row_of" (spN K w 1 m_row_of) [] := by
  refine mkCal F gm sc_row_of (F.binds (ps := ["text"]) fun _ _ _ _ _ _ us hl => match us, hl with | [_], _ => rfl) (fun vs H Q E h => ?_) (fun cdv A outer s H vs Q E hr h => ?_)
  · obtain ⟨_, _, _, hl, _⟩ := h
    exact hl
  · refine ⟨_, (pss_cons (ps_set (i := 1) sc_row_of.nd rfl (.inl rfl) (pe_split (pv 0) pe_str))
 (pss_cons (ps_setLc (i := 2) (own := [("word", 3)]) (g := gName 3) (tt := tYes) rfl sc_row_of.nd rfl rfl (sw_true rfl rfl rfl (by decide +kernel)) (pi_list (pe_slice (show SlR _ (rSlAny K) from sl_any) (pv 1) (po_some pe_int) po_none)) (blkOk_by (N := ["text", "words", "numbers", "word"]) (sc := defScope s_row_of) (by decide +kernel)) (fun _ _ _ _ _ => pg_name (i := 3) sc_row_of.nd rfl (Or.inl rfl)) (fun _ _ _ _ _ => pts_nil) (fun _ _ _ _ _ => (C8.pe_c c_number_of hr (by decide) rfl (pa_cons (pv 3) pa_nil))))
 (pss_one (ps_ret (pe_tup (pa_cons (pe_ix (show IxR _ (rIxAny K) from dIx) (pv 1) pe_int (fun _ _ => rfl)) (StX.pa_star (pv 2) pa_nil))))))), ?_⟩
    exact spN_body (b := b_row_of) (show RS K w WF _ b_row_of from (rs_seq (rs_asg (re_split (re_var (i := 0)) re_str) (rg_name (i := 1) (vs := [1]) (by decide)))
 (rs_seq (rs_asg (re_lc (ri_list (re_sl rsl_any (re_var (i := 1)) (ro_some re_int) ro_none)) (rg_name (i := 3) (vs := [3]) (by decide)) rt_yes (re_call (ra_cons (re_var (i := 3)) ra_nil))) (rg_name (i := 2) (vs := [2]) (by decide)))
 (rs_ret (re_tup (ra_cons (re_op r2_ixD (re_var (i := 1)) re_int) (ra_star (re_var (i := 2)) ra_nil))))))) h
theorem st_row_of (a0 : A) (st : Sto) : m_row_of [a0] st = fin (b_row_of [some a0, none, none, none] st) := rfl

/-! ### rows_of -/
abbrev s_rows_of : Stmt := topS 45
theorem sc_rows_of : FnScope ["text", "part"] ["text"] (defScope s_rows_of) := ⟨rfl, rfl, rfl, by decide +kernel, rfl, by decide +kernel, by decide +kernel⟩

noncomputable def b_rows_of : MS := (sRet (mCB oTuple (mCons (mLc (miL (mSplit (mVar 0) (mC (.str ",")))) (mgName 1) mYes (mCall 1 m_row_of (mCons (mVar 1) mNil)) [1]) mNil)))
noncomputable def m_rows_of : List A → Sto → Res A := runB 2 b_rows_of
theorem ok_rows_of {f : Addr} {fd : FuncData} (F : Fun K "rows_of" "rows_of" s_rows_of f fd) (gm : mg "rows_of" = some (.ref f)) (N : Fre K mg) (c_row_of : C8.Cal P w K mg base 2 "row_of" (spN K w 1 m_row_of) []) : C8.Cal P w K mg base 3 "rows_of" (spN K w 1 m_rows_of) [] := by
  refine mkCal F gm sc_rows_of (F.binds (ps := ["text"]) fun _ _ _ _ _ _ us hl => match us, hl with | [_], _ => rfl) (fun vs H Q E h => ?_) (fun cdv A outer s H vs Q E hr h => ?_)
  · obtain ⟨_, _, _, hl, _⟩ := h
    exact hl
  · refine ⟨_, (pss_one (ps_ret (pe_callTy (show CallR _ _ (rTupOf K) from call_tuple_of) (by rfl) N.tuple (by decide +kernel) (pa_cons (pe_lc (own := [("part", 1)]) (g := gName 1) (tt := tYes) rfl sc_rows_of.nd (pi_list (pe_split (pv 0) pe_str)) (blkOk_by (N := ["text", "part"]) (sc := defScope s_rows_of) (by decide +kernel)) (fun _ _ _ _ _ => pg_name (i := 1) sc_rows_of.nd rfl (Or.inl rfl)) (fun _ _ _ _ _ => pts_nil) (fun _ _ _ _ _ => (C8.pe_c c_row_of hr (by decide) rfl (pa_cons (pv 1) pa_nil)))) pa_nil)))), ?_⟩
    exact spN_body (b := b_rows_of) (show RS K w WF _ b_rows_of from (rs_ret (re_cb rl_tuple (ra_cons (re_lc (ri_list (re_split (re_var (i := 0)) re_str)) (rg_name (i := 1) (vs := [1]) (by decide)) rt_yes (re_call (ra_cons (re_var (i := 1)) ra_nil))) ra_nil)))) h
theorem st_rows_of (a0 : A) (st : Sto) : m_rows_of [a0] st = fin (b_rows_of [some a0, none] st) := rfl

/-! ### setup_of -/
abbrev s_setup_of : Stmt := topS 46
theorem sc_setup_of : FnScope ["text", "words", "files", "clients", "length", "drift", "setup"] ["text"] (defScope s_setup_of) := ⟨rfl, rfl, rfl, by decide +kernel, rfl, by decide +kernel, by decide +kernel⟩

noncomputable def b_setup_of : MS := (sSeq (sAsg (mSplit (mVar 0) (mC (.str " "))) (mgName 1))
 (sSeq (sIf (mOrT (mTest (mOp oNeX (mCB oLen (mCons (mVar 1) mNil)) (mC (.int 8)))) (mTest (mOp oNeX (mCB oTuple (mCons (mEach2 (mVar 1) mNoPart) mNil)) (mC (.tup [.str "files", .str "clients", .str "length", .str "drift"])))))
 (sRet (mC .non))
 sNext)
 (sSeq (sUnl (mEach2 (mVar 1) (mPart (mC (.int 1)))) (mgCons (mgName 2) (mgCons (mgName 3) (mgCons (mgName 4) (mgCons (mgName 5) mgNil)))))
 (sSeq (sAsg (mTup (mCons (mCall 1 m_rows_of (mCons (mVar 2) mNil)) (mCons (mCall 1 m_rows_of (mCons (mVar 3) mNil)) (mCons (mCall 1 m_number_of (mCons (mVar 4) mNil)) (mCons (mCall 1 m_number_of (mCons (mVar 5) mNil)) mNil))))) (mgName 6))
 (sRet (mIfE (mTest (mCall 1 m_is_setup (mCons (mVar 6) mNil))) (mVar 6) (mC .non)))))))
noncomputable def m_setup_of : List A → Sto → Res A := runB 7 b_setup_of
theorem ok_setup_of {f : Addr} {fd : FuncData} (F : Fun K "setup_of" "setup_of" s_setup_of f fd) (gm : mg "setup_of" = some (.ref f)) (N : Fre K mg) (c_is_setup : C8.Cal P w K mg base 5 "is_setup" (spN K w 1 m_is_setup) []) (c_number_of : C8.Cal P w K mg base 1 "number_of" (spN K w 1 m_number_of) []) (c_rows_of : C8.Cal P w K mg base 3 "rows_of" (spN K w 1 m_rows_of) []) : C8.Cal P w K mg base 6 "setup_of" (spN K w 1 m_setup_of) [] := by
  obtain ⟨W_HEADS, g_HEADS, w_HEADS⟩ := N.c_HEADS
  refine mkCal F gm sc_setup_of (F.binds (ps := ["text"]) fun _ _ _ _ _ _ us hl => match us, hl with | [_], _ => rfl) (fun vs H Q E h => ?_) (fun cdv A outer s H vs Q E hr h => ?_)
  · obtain ⟨_, _, _, hl, _⟩ := h
    exact hl
  · refine ⟨_, (pss_cons (ps_set (i := 1) sc_setup_of.nd rfl (.inl rfl) (pe_split (pv 0) pe_str))
 (pss_cons (ps_if (PW.pt (pw_or (pt_cmpR (show OpR _ _ (rNeX K) from (dNeX hr.units)) (pe_callB (show CallR _ _ (rLenAny K) from call_lenAny) (by rfl) N.len (by decide +kernel) (pa_cons (pv 1) pa_nil)) pe_int (nomark _)) (pw_or1 (pt_cmpR (show OpR _ _ (rNeX K) from (dNeX hr.units)) (pe_callTy (show CallR _ _ (rTupOf K) from call_tuple_of) (by rfl) N.tuple (by decide +kernel) (pa_cons (pe_each2 (pv 1) po_none) pa_nil)) (pe_glob (v := .ref W_HEADS) rfl g_HEADS rfl) (nomark _)))))
 (pss_one (ps_ret pe_non))
 pss_nil)
 (pss_cons (ps_asg (pe_each2 (pv 1) (po_some pe_int)) (pg_unl rfl (pgs_cons (pg_name (i := 2) sc_setup_of.nd rfl (.inl rfl)) (pgs_cons (pg_name (i := 3) sc_setup_of.nd rfl (.inl rfl)) (pgs_cons (pg_name (i := 4) sc_setup_of.nd rfl (.inl rfl)) (pgs_cons (pg_name (i := 5) sc_setup_of.nd rfl (.inl rfl)) pgs_nil))))))
 (pss_cons (ps_set (i := 6) sc_setup_of.nd rfl (.inl rfl) (pe_tup (pa_cons (C8.pe_c c_rows_of hr (by decide) rfl (pa_cons (pv 2) pa_nil)) (pa_cons (C8.pe_c c_rows_of hr (by decide) rfl (pa_cons (pv 3) pa_nil)) (pa_cons (C8.pe_c c_number_of hr (by decide) rfl (pa_cons (pv 4) pa_nil)) (pa_cons (C8.pe_c c_number_of hr (by decide) rfl (pa_cons (pv 5) pa_nil)) pa_nil))))))
 (pss_one (ps_ret (pe_ifExp (pt_val (C8.pe_c c_is_setup hr (by decide) rfl (pa_cons (pv 6) pa_nil))) (pv 6) pe_non))))))), ?_⟩
    exact spN_body (b := b_setup_of) (show RS K w WF _ b_setup_of from (rs_seq (rs_asg (re_split (re_var (i := 0)) re_str) (rg_name (i := 1) (vs := [1]) (by decide)))
 (rs_seq (rs_if (rt_or (rt_test (re_op r2_neX (re_cb rl_len (ra_cons (re_var (i := 1)) ra_nil)) re_int)) (rt_test (re_op r2_neX (re_cb rl_tuple (ra_cons (re_each2 (re_var (i := 1)) ro_none) ra_nil)) (re_c fun ρ H => .tup (w_HEADS H) (.cons (.str _) (.cons (.str _) (.cons (.str _) (.cons (.str _) .nil))))))))
 (rs_ret re_non)
 rs_next)
 (rs_seq (rs_unl (re_each2 (re_var (i := 1)) (ro_some re_int)) (mgs_lenS (mgs_lenS (mgs_lenS (mgs_lenS mgs_len0)))) (rgs_cons (rg_name (i := 2) (vs := [2, 3, 4, 5]) (by decide)) (rgs_cons (rg_name (i := 3) (vs := [2, 3, 4, 5]) (by decide)) (rgs_cons (rg_name (i := 4) (vs := [2, 3, 4, 5]) (by decide)) (rgs_cons (rg_name (i := 5) (vs := [2, 3, 4, 5]) (by decide)) rgs_nil)))))
 (rs_seq (rs_asg (re_tup (ra_cons (re_call (ra_cons (re_var (i := 2)) ra_nil)) (ra_cons (re_call (ra_cons (re_var (i := 3)) ra_nil)) (ra_cons (re_call (ra_cons (re_var (i := 4)) ra_nil)) (ra_cons (re_call (ra_cons (re_var (i := 5)) ra_nil)) ra_nil))))) (rg_name (i := 6) (vs := [6]) (by decide)))
 (rs_ret (re_if (rt_val (re_call (ra_cons (re_var (i := 6)) ra_nil))) (re_var (i := 6)) re_non))))))) h
theorem st_setup_of (a0 : A) (st : Sto) : m_setup_of [a0] st = fin (b_setup_of [some a0, none, none, none, none, none, none] st) := rfl

/-! ### _law_within -/
abbrev s__law_within : Stmt := topS 56
theorem sc__law_within : FnScope ["thing", "least", "most"] ["thing", "least", "most"] (defScope s__law_within) := ⟨rfl, rfl, rfl, by decide +kernel, rfl, by decide +kernel, by decide +kernel⟩

noncomputable def b__law_within : MS := (sRet (mAnd (mCB oIsi (mCons (mVar 0) (mCons (mC (.ty "int")) mNil))) (mAnd (mNot (mCB oIsi (mCons (mVar 0) (mCons (mC (.ty "bool")) mNil)))) (mChain oLe oLe (mVar 1) (mVar 0) (mVar 2)))))
noncomputable def m__law_within : List A → Sto → Res A := runB 3 b__law_within
theorem ok__law_within {f : Addr} {fd : FuncData} (F : Fun K "_law_within" "_law_within" s__law_within f fd) (gm : mg "_law_within" = some (.ref f)) (N : Fre K mg)  : C8.Cal P w K mg base 1 "_law_within" (spN K w 3 m__law_within) [] := by
  refine mkCal F gm sc__law_within (F.binds (ps := ["thing", "least", "most"]) fun _ _ _ _ _ _ us hl => match us, hl with | [_, _, _], _ => rfl) (fun vs H Q E h => ?_) (fun cdv A outer s H vs Q E hr h => ?_)
  · obtain ⟨_, _, _, hl, _⟩ := h
    exact hl
  · refine ⟨_, (pss_one (ps_ret (pe_and (pe_callB (show CallR _ _ (rIsi K) from call_isi) (by rfl) N.isinstance (by decide +kernel) (pa_cons (pv 0) (pa_cons (pe_bltn (v := .ty "int") (u := .type "int") rfl N.int (by decide +kernel) rfl) pa_nil))) (pe_and (pe_not (pe_callB (show CallR _ _ (rIsi K) from call_isi) (by rfl) N.isinstance (by decide +kernel) (pa_cons (pv 0) (pa_cons (pe_bltn (v := .ty "bool") (u := .type "bool") rfl N.bool (by decide +kernel) rfl) pa_nil)))) (pe_one (pe_chain (show OpR _ _ rLeD from dLe) (show OpR _ _ rLeD from dLe) (pv 1) (pv 0) (pv 2))))))), ?_⟩
    exact spN_body (b := b__law_within) (show RS K w WF _ b__law_within from (rs_ret (re_and (re_cb rl_isi (ra_cons (re_var (i := 0)) (ra_cons (re_c fun _ _ => .ty _) ra_nil))) (re_and (re_not (re_cb rl_isi (ra_cons (re_var (i := 0)) (ra_cons (re_c fun _ _ => .ty _) ra_nil)))) (re_chain r2_le r2_le (re_var (i := 1)) (re_var (i := 0)) (re_var (i := 2))))))) h
theorem st__law_within (a0 a1 a2 : A) (st : Sto) : m__law_within [a0, a1, a2] st = fin (b__law_within [some a0, some a1, some a2] st) := rfl

/-! ### _law_is_name -/
abbrev s__law_is_name : Stmt := topS 57
theorem sc__law_is_name : FnScope ["thing", "sign"] ["thing"] (defScope s__law_is_name) := ⟨rfl, rfl, rfl, by decide +kernel, rfl, by decide +kernel, by decide +kernel⟩

noncomputable def b__law_is_name : MS := (sSeq (sIf (mOrT (mNotT (mTest (mCB oIsi (mCons (mVar 0) (mCons (mC (.ty "str")) mNil))))) (mNotT (mTest (mChain oLe oLe (mC (.int 1)) (mCB oLen (mCons (mVar 0) mNil)) (mC (.int 8))))))
 (sRet (mC (.bl false)))
 sNext)
 (sRet (mOp oEqX (mLc (miS (mVar 0)) (mgName 1) (mTest (mOp oNotInX (mVar 1) (mC (.str "abcdefghijklmnopqrstuvwxyz")))) (mVar 1) [1]) (mLst mNil))))
noncomputable def m__law_is_name : List A → Sto → Res A := runB 2 b__law_is_name
theorem ok__law_is_name {f : Addr} {fd : FuncData} (F : Fun K "_law_is_name" "_law_is_name" s__law_is_name f fd) (gm : mg "_law_is_name" = some (.ref f)) (N : Fre K mg)  : C8.Cal P w K mg base 1 "_law_is_name" (spN K w 1 m__law_is_name) [] := by
  refine mkCal F gm sc__law_is_name (F.binds (ps := ["thing"]) fun _ _ _ _ _ _ us hl => match us, hl with | [_], _ => rfl) (fun vs H Q E h => ?_) (fun cdv A outer s H vs Q E hr h => ?_)
  · obtain ⟨_, _, _, hl, _⟩ := h
    exact hl
  · refine ⟨_, (pss_cons (ps_if (PW.pt (pw_or (pt_not (pt_val (pe_callB (show CallR _ _ (rIsi K) from call_isi) (by rfl) N.isinstance (by decide +kernel) (pa_cons (pv 0) (pa_cons (pe_bltn (v := .ty "str") (u := .type "str") rfl N.str (by decide +kernel) rfl) pa_nil))))) (pw_or1 (pt_not (pt_chain (show OpR _ _ rLeD from dLe) (show OpR _ _ rLeD from dLe) pe_int (pe_callB (show CallR _ _ (rLenAny K) from call_lenAny) (by rfl) N.len (by decide +kernel) (pa_cons (pv 0) pa_nil)) pe_int)))))
 (pss_one (ps_ret pe_bl))
 pss_nil)
 (pss_one (ps_ret (pe_cmpR (show OpR _ _ (rEqX K) from (dEqX hr.units)) (pe_lc (own := [("sign", 1)]) (g := gName 1) rfl sc__law_is_name.nd (pi_str (pv 0)) (blkOk_by (N := ["thing", "sign"]) (sc := defScope s__law_is_name) (by decide +kernel)) (fun _ _ _ _ _ => pg_name (i := 1) sc__law_is_name.nd rfl (Or.inl rfl)) (fun _ _ _ _ _ => pts_one (pt_cmpR (show OpR _ _ (rNotInX K) from (dNotInX (hu65 hr))) (pv 1) pe_str (by with_unfolding_all rfl))) (fun _ _ _ _ _ => (pv 1))) (pe_lst pa_nil) (nomark _))))), ?_⟩
    exact spN_body (b := b__law_is_name) (show RS K w WF _ b__law_is_name from (rs_seq (rs_if (rt_or (rt_not (rt_val (re_cb rl_isi (ra_cons (re_var (i := 0)) (ra_cons (re_c fun _ _ => .ty _) ra_nil))))) (rt_not (rt_test (re_chain r2_le r2_le re_int (re_cb rl_len (ra_cons (re_var (i := 0)) ra_nil)) re_int))))
 (rs_ret re_bl)
 rs_next)
 (rs_ret (re_op r2_eqX (re_lc (ri_str (re_var (i := 0))) (rg_name (i := 1) (vs := [1]) (by decide)) (rt_test (re_op r2_notInX (re_var (i := 1)) re_str)) (re_var (i := 1))) (re_lst ra_nil))))) h
theorem st__law_is_name (a0 : A) (st : Sto) : m__law_is_name [a0] st = fin (b__law_is_name [some a0, none] st) := rfl

/-! ### _law_are_rows -/
abbrev s__law_are_rows : Stmt := topS 61
theorem sc__law_are_rows : FnScope ["thing", "most", "width", "last", "row"] ["thing", "most", "width"] (defScope s__law_are_rows) := ⟨rfl, rfl, rfl, by decide +kernel, rfl, by decide +kernel, by decide +kernel⟩
noncomputable def lb__law_are_rows_1 : MS := (sSeq (sIf (mOrT (mNotT (mTest (mCB oIsi (mCons (mVar 4) (mCons (mC (.ty "tuple")) mNil))))) (mOrT (mTest (mOp oNeX (mCB oLen (mCons (mVar 4) mNil)) (mVar 2))) (mOrT (mNotT (mTest (mCall 1 m__law_is_name (mCons (mOp oIxD (mVar 4) (mC (.int 0))) mNil)))) (mTest (mOp oLe (mOp oIxD (mVar 4) (mC (.int 0))) (mVar 3))))))
 (sRet (mC (.bl false)))
 sNext)
 (sAsg (mOp oIxD (mVar 4) (mC (.int 0))) (mgName 3)))
noncomputable def b__law_are_rows : MS := (sSeq (sIf (mOrT (mNotT (mTest (mCB oIsi (mCons (mVar 0) (mCons (mC (.ty "tuple")) mNil))))) (mNotT (mTest (mChain oLe oLe (mC (.int 1)) (mCB oLen (mCons (mVar 0) mNil)) (mVar 1)))))
 (sRet (mC (.bl false)))
 sNext)
 (sSeq (sAsg (mC (.str "")) (mgName 3))
 (sSeq (sFor (miT (mVar 0)) (mgName 4)
 lb__law_are_rows_1)
 (sRet (mC (.bl true))))))
noncomputable def m__law_are_rows : List A → Sto → Res A := runB 5 b__law_are_rows
theorem ok__law_are_rows {f : Addr} {fd : FuncData} (F : Fun K "_law_are_rows" "_law_are_rows" s__law_are_rows f fd) (gm : mg "_law_are_rows" = some (.ref f)) (N : Fre K mg) (c__law_is_name : C8.Cal P w K mg base 1 "_law_is_name" (spN K w 1 m__law_is_name) []) : C8.Cal P w K mg base 2 "_law_are_rows" (spN K w 3 m__law_are_rows) [] := by
  refine mkCal F gm sc__law_are_rows (F.binds (ps := ["thing", "most", "width"]) fun _ _ _ _ _ _ us hl => match us, hl with | [_, _, _], _ => rfl) (fun vs H Q E h => ?_) (fun cdv A outer s H vs Q E hr h => ?_)
  · obtain ⟨_, _, _, hl, _⟩ := h
    exact hl
  · refine ⟨_, (pss_cons (ps_if (PW.pt (pw_or (pt_not (pt_val (pe_callB (show CallR _ _ (rIsi K) from call_isi) (by rfl) N.isinstance (by decide +kernel) (pa_cons (pv 0) (pa_cons (pe_bltn (v := .ty "tuple") (u := .type "tuple") rfl N.tuple (by decide +kernel) rfl) pa_nil))))) (pw_or1 (pt_not (pt_chain (show OpR _ _ rLeD from dLe) (show OpR _ _ rLeD from dLe) pe_int (pe_callB (show CallR _ _ (rLenAny K) from call_lenAny) (by rfl) N.len (by decide +kernel) (pa_cons (pv 0) pa_nil)) (pv 1))))))
 (pss_one (ps_ret pe_bl))
 pss_nil)
 (pss_cons (ps_set (i := 3) sc__law_are_rows.nd rfl (.inl rfl) pe_str)
 (pss_cons (ps_for PassesOwn.never rfl (pi_tup (pv 0)) (pg_name (i := 4) sc__law_are_rows.nd rfl (.inl rfl))
 (pss_cons (ps_if (PW.pt (pw_or (pt_not (pt_val (pe_callB (show CallR _ _ (rIsi K) from call_isi) (by rfl) N.isinstance (by decide +kernel) (pa_cons (pv 4) (pa_cons (pe_bltn (v := .ty "tuple") (u := .type "tuple") rfl N.tuple (by decide +kernel) rfl) pa_nil))))) (pw_or (pt_cmpR (show OpR _ _ (rNeX K) from (dNeX hr.units)) (pe_callB (show CallR _ _ (rLenAny K) from call_lenAny) (by rfl) N.len (by decide +kernel) (pa_cons (pv 4) pa_nil)) (pv 2) (nomark _)) (pw_or (pt_not (pt_val (C8.pe_c c__law_is_name hr (by decide) rfl (pa_cons (pe_ix (show IxR _ (rIxAny K) from dIx) (pv 4) pe_int (fun _ _ => rfl)) pa_nil)))) (pw_or1 (pt_cmpR (show OpR _ _ rLeD from dLe) (pe_ix (show IxR _ (rIxAny K) from dIx) (pv 4) pe_int (fun _ _ => rfl)) (pv 3) (nomark _)))))))
 (pss_one (ps_ret pe_bl))
 pss_nil)
 (pss_one (ps_set (i := 3) sc__law_are_rows.nd rfl (.inl rfl) (pe_ix (show IxR _ (rIxAny K) from dIx) (pv 4) pe_int (fun _ _ => rfl))))))
 (pss_one (ps_ret pe_bl))))), ?_⟩
    exact spN_body (b := b__law_are_rows) (show RS K w WF _ b__law_are_rows from (rs_seq (rs_if (rt_or (rt_not (rt_val (re_cb rl_isi (ra_cons (re_var (i := 0)) (ra_cons (re_c fun _ _ => .ty _) ra_nil))))) (rt_not (rt_test (re_chain r2_le r2_le re_int (re_cb rl_len (ra_cons (re_var (i := 0)) ra_nil)) (re_var (i := 1))))))
 (rs_ret re_bl)
 rs_next)
 (rs_seq (rs_asg re_str (rg_name (i := 3) (vs := [3]) (by decide)))
 (rs_seq (rs_for (ri_tup (re_var (i := 0))) (rg_name (i := 4) (vs := [4]) (by decide))
 (rs_seq (rs_if (rt_or (rt_not (rt_val (re_cb rl_isi (ra_cons (re_var (i := 4)) (ra_cons (re_c fun _ _ => .ty _) ra_nil))))) (rt_or (rt_test (re_op r2_neX (re_cb rl_len (ra_cons (re_var (i := 4)) ra_nil)) (re_var (i := 2)))) (rt_or (rt_not (rt_val (re_call (ra_cons (re_op r2_ixD (re_var (i := 4)) re_int) ra_nil)))) (rt_test (re_op r2_le (re_op r2_ixD (re_var (i := 4)) re_int) (re_var (i := 3)))))))
 (rs_ret re_bl)
 rs_next)
 (rs_asg (re_op r2_ixD (re_var (i := 4)) re_int) (rg_name (i := 3) (vs := [3]) (by decide)))))
 (rs_ret re_bl))))) h
theorem st__law_are_rows (a0 a1 a2 : A) (st : Sto) : m__law_are_rows [a0, a1, a2] st = fin (b__law_are_rows [some a0, some a1, some a2, none, none] st) := rfl

/-! ### _law_is_setup -/
abbrev s__law_is_setup : Stmt := topS 62
theorem sc__law_is_setup : FnScope ["thing", "row"] ["thing"] (defScope s__law_is_setup) := ⟨rfl, rfl, rfl, by decide +kernel, rfl, by decide +kernel, by decide +kernel⟩
noncomputable def lb__law_is_setup_1 : MS := (sIf (mOrT (mTest (mOp oEqX (mOp oIxD (mVar 1) (mC (.int 0))) (mC (.str "server")))) (mOrT (mNotT (mTest (mCall 3 m__law_within (mCons (mOp oIxD (mVar 1) (mC (.int 1))) (mCons (mC (.int 50)) (mCons (mC (.int 200)) mNil)))))) (mNotT (mTest (mCall 3 m__law_within (mCons (mOp oIxD (mVar 1) (mC (.int 2))) (mCons (mC (.int 0)) (mCons (mC (.int 99)) mNil))))))))
 (sRet (mC (.bl false)))
 sNext)
noncomputable def b__law_is_setup : MS := (sSeq (sIf (mOrT (mNotT (mTest (mCB oIsi (mCons (mVar 0) (mCons (mC (.ty "tuple")) mNil))))) (mTest (mOp oNeX (mCB oLen (mCons (mVar 0) mNil)) (mC (.int 4)))))
 (sRet (mC (.bl false)))
 sNext)
 (sSeq (sIf (mOrT (mNotT (mTest (mCall 3 m__law_are_rows (mCons (mOp oIxD (mVar 0) (mC (.int 0))) (mCons (mC (.int 3)) (mCons (mC (.int 2)) mNil)))))) (mNotT (mTest (mCall 3 m__law_are_rows (mCons (mOp oIxD (mVar 0) (mC (.int 1))) (mCons (mC (.int 4)) (mCons (mC (.int 3)) mNil)))))))
 (sRet (mC (.bl false)))
 sNext)
 (sSeq (sIf (mTest (mOp oNeX (mLc (miT (mOp oIxD (mVar 0) (mC (.int 0)))) (mgName 1) (mNotT (mTest (mCall 3 m__law_within (mCons (mOp oIxD (mVar 1) (mC (.int 1))) (mCons (mC (.int 1)) (mCons (mC (.int 4)) mNil)))))) (mVar 1) [1]) (mLst mNil)))
 (sRet (mC (.bl false)))
 sNext)
 (sSeq (sFor (miT (mOp oIxD (mVar 0) (mC (.int 1)))) (mgName 1)
 lb__law_is_setup_1)
 (sRet (mAnd (mCall 3 m__law_within (mCons (mOp oIxD (mVar 0) (mC (.int 2))) (mCons (mC (.int 2)) (mCons (mC (.int 1000)) mNil)))) (mCall 3 m__law_within (mCons (mOp oIxD (mVar 0) (mC (.int 3))) (mCons (mC (.int 0)) (mCons (mC (.int 50)) mNil))))))))))
noncomputable def m__law_is_setup : List A → Sto → Res A := runB 2 b__law_is_setup
theorem ok__law_is_setup {f : Addr} {fd : FuncData} (F : Fun K "_law_is_setup" "_law_is_setup" s__law_is_setup f fd) (gm : mg "_law_is_setup" = some (.ref f)) (N : Fre K mg) (c__law_are_rows : C8.Cal P w K mg base 2 "_law_are_rows" (spN K w 3 m__law_are_rows) []) (c__law_within : C8.Cal P w K mg base 1 "_law_within" (spN K w 3 m__law_within) []) : C8.Cal P w K mg base 3 "_law_is_setup" (spN K w 1 m__law_is_setup) [] := by
  refine mkCal F gm sc__law_is_setup (F.binds (ps := ["thing"]) fun _ _ _ _ _ _ us hl => match us, hl with | [_], _ => rfl) (fun vs H Q E h => ?_) (fun cdv A outer s H vs Q E hr h => ?_)
  · obtain ⟨_, _, _, hl, _⟩ := h
    exact hl
  · refine ⟨_, (pss_cons (ps_if (PW.pt (pw_or (pt_not (pt_val (pe_callB (show CallR _ _ (rIsi K) from call_isi) (by rfl) N.isinstance (by decide +kernel) (pa_cons (pv 0) (pa_cons (pe_bltn (v := .ty "tuple") (u := .type "tuple") rfl N.tuple (by decide +kernel) rfl) pa_nil))))) (pw_or1 (pt_cmpR (show OpR _ _ (rNeX K) from (dNeX hr.units)) (pe_callB (show CallR _ _ (rLenAny K) from call_lenAny) (by rfl) N.len (by decide +kernel) (pa_cons (pv 0) pa_nil)) pe_int (nomark _)))))
 (pss_one (ps_ret pe_bl))
 pss_nil)
 (pss_cons (ps_if (PW.pt (pw_or (pt_not (pt_val (C8.pe_c c__law_are_rows hr (by decide) rfl (pa_cons (pe_ix (show IxR _ (rIxAny K) from dIx) (pv 0) pe_int (fun _ _ => rfl)) (pa_cons pe_int (pa_cons pe_int pa_nil)))))) (pw_or1 (pt_not (pt_val (C8.pe_c c__law_are_rows hr (by decide) rfl (pa_cons (pe_ix (show IxR _ (rIxAny K) from dIx) (pv 0) pe_int (fun _ _ => rfl)) (pa_cons pe_int (pa_cons pe_int pa_nil)))))))))
 (pss_one (ps_ret pe_bl))
 pss_nil)
 (pss_cons (ps_if (pt_cmpR (show OpR _ _ (rNeX K) from (dNeX hr.units)) (pe_lc (own := [("row", 1)]) (g := gName 1) rfl sc__law_is_setup.nd (pi_tup (pe_ix (show IxR _ (rIxAny K) from dIx) (pv 0) pe_int (fun _ _ => rfl))) (blkOk_by (N := ["thing", "row"]) (sc := defScope s__law_is_setup) (by decide +kernel)) (fun _ _ _ _ _ => pg_name (i := 1) sc__law_is_setup.nd rfl (Or.inl rfl)) (fun _ _ _ _ _ => pts_one (pt_not (pt_val (C8.pe_c c__law_within hr (by decide) rfl (pa_cons (pe_ix (show IxR _ (rIxAny K) from dIx) (pv 1) pe_int (fun _ _ => rfl)) (pa_cons pe_int (pa_cons pe_int pa_nil))))))) (fun _ _ _ _ _ => (pv 1))) (pe_lst pa_nil) (nomark _))
 (pss_one (ps_ret pe_bl))
 pss_nil)
 (pss_cons (ps_for PassesOwn.never rfl (pi_tup (pe_ix (show IxR _ (rIxAny K) from dIx) (pv 0) pe_int (fun _ _ => rfl))) (pg_name (i := 1) sc__law_is_setup.nd rfl (.inl rfl))
 (pss_one (ps_if (PW.pt (pw_or (pt_cmpR (show OpR _ _ (rEqX K) from (dEqX hr.units)) (pe_ix (show IxR _ (rIxAny K) from dIx) (pv 1) pe_int (fun _ _ => rfl)) pe_str (nomark _)) (pw_or (pt_not (pt_val (C8.pe_c c__law_within hr (by decide) rfl (pa_cons (pe_ix (show IxR _ (rIxAny K) from dIx) (pv 1) pe_int (fun _ _ => rfl)) (pa_cons pe_int (pa_cons pe_int pa_nil)))))) (pw_or1 (pt_not (pt_val (C8.pe_c c__law_within hr (by decide) rfl (pa_cons (pe_ix (show IxR _ (rIxAny K) from dIx) (pv 1) pe_int (fun _ _ => rfl)) (pa_cons pe_int (pa_cons pe_int pa_nil))))))))))
 (pss_one (ps_ret pe_bl))
 pss_nil)))
 (pss_one (ps_ret (pe_and (C8.pe_c c__law_within hr (by decide) rfl (pa_cons (pe_ix (show IxR _ (rIxAny K) from dIx) (pv 0) pe_int (fun _ _ => rfl)) (pa_cons pe_int (pa_cons pe_int pa_nil)))) (pe_one (C8.pe_c c__law_within hr (by decide) rfl (pa_cons (pe_ix (show IxR _ (rIxAny K) from dIx) (pv 0) pe_int (fun _ _ => rfl)) (pa_cons pe_int (pa_cons pe_int pa_nil)))))))))))), ?_⟩
    exact spN_body (b := b__law_is_setup) (show RS K w WF _ b__law_is_setup from (rs_seq (rs_if (rt_or (rt_not (rt_val (re_cb rl_isi (ra_cons (re_var (i := 0)) (ra_cons (re_c fun _ _ => .ty _) ra_nil))))) (rt_test (re_op r2_neX (re_cb rl_len (ra_cons (re_var (i := 0)) ra_nil)) re_int)))
 (rs_ret re_bl)
 rs_next)
 (rs_seq (rs_if (rt_or (rt_not (rt_val (re_call (ra_cons (re_op r2_ixD (re_var (i := 0)) re_int) (ra_cons re_int (ra_cons re_int ra_nil)))))) (rt_not (rt_val (re_call (ra_cons (re_op r2_ixD (re_var (i := 0)) re_int) (ra_cons re_int (ra_cons re_int ra_nil)))))))
 (rs_ret re_bl)
 rs_next)
 (rs_seq (rs_if (rt_test (re_op r2_neX (re_lc (ri_tup (re_op r2_ixD (re_var (i := 0)) re_int)) (rg_name (i := 1) (vs := [1]) (by decide)) (rt_not (rt_val (re_call (ra_cons (re_op r2_ixD (re_var (i := 1)) re_int) (ra_cons re_int (ra_cons re_int ra_nil)))))) (re_var (i := 1))) (re_lst ra_nil)))
 (rs_ret re_bl)
 rs_next)
 (rs_seq (rs_for (ri_tup (re_op r2_ixD (re_var (i := 0)) re_int)) (rg_name (i := 1) (vs := [1]) (by decide))
 (rs_if (rt_or (rt_test (re_op r2_eqX (re_op r2_ixD (re_var (i := 1)) re_int) re_str)) (rt_or (rt_not (rt_val (re_call (ra_cons (re_op r2_ixD (re_var (i := 1)) re_int) (ra_cons re_int (ra_cons re_int ra_nil)))))) (rt_not (rt_val (re_call (ra_cons (re_op r2_ixD (re_var (i := 1)) re_int) (ra_cons re_int (ra_cons re_int ra_nil))))))))
 (rs_ret re_bl)
 rs_next))
 (rs_ret (re_and (re_call (ra_cons (re_op r2_ixD (re_var (i := 0)) re_int) (ra_cons re_int (ra_cons re_int ra_nil)))) (re_call (ra_cons (re_op r2_ixD (re_var (i := 0)) re_int) (ra_cons re_int (ra_cons re_int ra_nil))))))))))) h
theorem st__law_is_setup (a0 : A) (st : Sto) : m__law_is_setup [a0] st = fin (b__law_is_setup [some a0, none] st) := rfl

/-! ### _law_setup_line -/
abbrev s__law_setup_line : Stmt := topS 64
theorem sc__law_setup_line : FnScope ["setup", "words", "row"] ["setup"] (defScope s__law_setup_line) := ⟨rfl, rfl, rfl, by decide +kernel, rfl, by decide +kernel, by decide +kernel⟩

noncomputable def b__law_setup_line : MS := (sSeq (sAsg (mLst (mCons (mC (.str "files")) (mCons (mJoin (mC (.str ",")) (mLc (miT (mOp oIxD (mVar 0) (mC (.int 0)))) (mgName 2) mYes (mOp oAddX (mOp oAddX (mOp oIxD (mVar 2) (mC (.int 0))) (mC (.str ":"))) (mCB oStrX (mCons (mOp oIxD (mVar 2) (mC (.int 1))) mNil))) [2])) (mCons (mC (.str "clients")) mNil)))) (mgName 1))
 (sSeq (sDrop (mMeth oAppend (mVar 1) (mCons (mJoin (mC (.str ",")) (mLc (miT (mOp oIxD (mVar 0) (mC (.int 1)))) (mgName 2) mYes (mOp oAddX (mOp oAddX (mOp oAddX (mOp oAddX (mOp oIxD (mVar 2) (mC (.int 0))) (mC (.str ":"))) (mCB oStrX (mCons (mOp oIxD (mVar 2) (mC (.int 1))) mNil))) (mC (.str ":"))) (mCB oStrX (mCons (mOp oIxD (mVar 2) (mC (.int 2))) mNil))) [2])) mNil)))
 (sRet (mJoin (mC (.str " ")) (mOp oAddX (mVar 1) (mLst (mCons (mC (.str "length")) (mCons (mCB oStrX (mCons (mOp oIxD (mVar 0) (mC (.int 2))) mNil)) (mCons (mC (.str "drift")) (mCons (mCB oStrX (mCons (mOp oIxD (mVar 0) (mC (.int 3))) mNil)) mNil))))))))))
noncomputable def m__law_setup_line : List A → Sto → Res A := runB 3 b__law_setup_line
theorem ok__law_setup_line {f : Addr} {fd : FuncData} (F : Fun K "_law_setup_line" "_law_setup_line" s__law_setup_line f fd) (gm : mg "_law_setup_line" = some (.ref f)) (N : Fre K mg)  : C8.Cal P w K mg base 1 "_law_setup_line" (spN K w 1 m__law_setup_line) [] := by
  refine mkCal F gm sc__law_setup_line (F.binds (ps := ["setup"]) fun _ _ _ _ _ _ us hl => match us, hl with | [_], _ => rfl) (fun vs H Q E h => ?_) (fun cdv A outer s H vs Q E hr h => ?_)
  · obtain ⟨_, _, _, hl, _⟩ := h
    exact hl
  · refine ⟨_, (pss_cons (ps_set (i := 1) sc__law_setup_line.nd rfl (.inl rfl) (pe_lst (pa_cons pe_str (pa_cons (pe_join pe_str (pe_lc (own := [("row", 2)]) (g := gName 2) (tt := tYes) rfl sc__law_setup_line.nd (pi_tup (pe_ix (show IxR _ (rIxAny K) from dIx) (pv 0) pe_int (fun _ _ => rfl))) (blkOk_by (N := ["setup", "words", "row"]) (sc := defScope s__law_setup_line) (by decide +kernel)) (fun _ _ _ _ _ => pg_name (i := 2) sc__law_setup_line.nd rfl (Or.inl rfl)) (fun _ _ _ _ _ => pts_nil) (fun _ _ _ _ _ => (pe_op (show OpR _ _ (rAddX K) from dAddX) (pe_op (show OpR _ _ (rAddX K) from dAddX) (pe_ix (show IxR _ (rIxAny K) from dIx) (pv 2) pe_int (fun _ _ => rfl)) pe_str) (pe_callTy (show CallR _ _ rStrX from call_strX) (by rfl) N.str (by decide +kernel) (pa_cons (pe_ix (show IxR _ (rIxAny K) from dIx) (pv 2) pe_int (fun _ _ => rfl)) pa_nil)))))) (pa_cons pe_str pa_nil)))))
 (pss_cons (ps_expr (pe_bm PySem.F.plainAttrs_list PySem.F.slot_list_append PySem.F.type_list_append mt_append (pv 1) (pa_cons (pe_join pe_str (pe_lc (own := [("row", 2)]) (g := gName 2) (tt := tYes) rfl sc__law_setup_line.nd (pi_tup (pe_ix (show IxR _ (rIxAny K) from dIx) (pv 0) pe_int (fun _ _ => rfl))) (blkOk_by (N := ["setup", "words", "row"]) (sc := defScope s__law_setup_line) (by decide +kernel)) (fun _ _ _ _ _ => pg_name (i := 2) sc__law_setup_line.nd rfl (Or.inl rfl)) (fun _ _ _ _ _ => pts_nil) (fun _ _ _ _ _ => (pe_op (show OpR _ _ (rAddX K) from dAddX) (pe_op (show OpR _ _ (rAddX K) from dAddX) (pe_op (show OpR _ _ (rAddX K) from dAddX) (pe_op (show OpR _ _ (rAddX K) from dAddX) (pe_ix (show IxR _ (rIxAny K) from dIx) (pv 2) pe_int (fun _ _ => rfl)) pe_str) (pe_callTy (show CallR _ _ rStrX from call_strX) (by rfl) N.str (by decide +kernel) (pa_cons (pe_ix (show IxR _ (rIxAny K) from dIx) (pv 2) pe_int (fun _ _ => rfl)) pa_nil))) pe_str) (pe_callTy (show CallR _ _ rStrX from call_strX) (by rfl) N.str (by decide +kernel) (pa_cons (pe_ix (show IxR _ (rIxAny K) from dIx) (pv 2) pe_int (fun _ _ => rfl)) pa_nil)))))) pa_nil)))
 (pss_one (ps_ret (pe_join pe_str (pe_op (show OpR _ _ (rAddX K) from dAddX) (pv 1) (pe_lst (pa_cons pe_str (pa_cons (pe_callTy (show CallR _ _ rStrX from call_strX) (by rfl) N.str (by decide +kernel) (pa_cons (pe_ix (show IxR _ (rIxAny K) from dIx) (pv 0) pe_int (fun _ _ => rfl)) pa_nil)) (pa_cons pe_str (pa_cons (pe_callTy (show CallR _ _ rStrX from call_strX) (by rfl) N.str (by decide +kernel) (pa_cons (pe_ix (show IxR _ (rIxAny K) from dIx) (pv 0) pe_int (fun _ _ => rfl)) pa_nil)) pa_nil))))))))))), ?_⟩
    exact spN_body (b := b__law_setup_line) (show RS K w WF _ b__law_setup_line from (rs_seq (rs_asg (re_lst (ra_cons re_str (ra_cons (re_join re_str (re_lc (ri_tup (re_op r2_ixD (re_var (i := 0)) re_int)) (rg_name (i := 2) (vs := [2]) (by decide)) rt_yes (re_op r2_addX (re_op r2_addX (re_op r2_ixD (re_var (i := 2)) re_int) re_str) (re_cb rl_strX (ra_cons (re_op r2_ixD (re_var (i := 2)) re_int) ra_nil))))) (ra_cons re_str ra_nil)))) (rg_name (i := 1) (vs := [1]) (by decide)))
 (rs_seq (rs_drop (re_meth rm_append (re_var (i := 1)) (ra_cons (re_join re_str (re_lc (ri_tup (re_op r2_ixD (re_var (i := 0)) re_int)) (rg_name (i := 2) (vs := [2]) (by decide)) rt_yes (re_op r2_addX (re_op r2_addX (re_op r2_addX (re_op r2_addX (re_op r2_ixD (re_var (i := 2)) re_int) re_str) (re_cb rl_strX (ra_cons (re_op r2_ixD (re_var (i := 2)) re_int) ra_nil))) re_str) (re_cb rl_strX (ra_cons (re_op r2_ixD (re_var (i := 2)) re_int) ra_nil))))) ra_nil)))
 (rs_ret (re_join re_str (re_op r2_addX (re_var (i := 1)) (re_lst (ra_cons re_str (ra_cons (re_cb rl_strX (ra_cons (re_op r2_ixD (re_var (i := 0)) re_int) ra_nil)) (ra_cons re_str (ra_cons (re_cb rl_strX (ra_cons (re_op r2_ixD (re_var (i := 0)) re_int) ra_nil)) ra_nil))))))))))) h
theorem st__law_setup_line (a0 : A) (st : Sto) : m__law_setup_line [a0] st = fin (b__law_setup_line [some a0, none, none] st) := rfl


/-! ### rows_text -/
abbrev s_rows_text : Stmt := topS 47
theorem sc_rows_text : FnScope ["rows", "row", "part"] ["rows"] (defScope s_rows_text) := ⟨rfl, rfl, rfl, by decide +kernel, rfl, by decide +kernel, by decide +kernel⟩

noncomputable def b_rows_text : MS := (sRet (mJoin (mC (.str ",")) (mLc (miT (mVar 0)) (mgName 1) mYes (mJoin (mC (.str ":")) (mLc (miT (mVar 1)) (mgName 2) mYes (mCB oStrY (mCons (mVar 2) mNil)) [2])) [1])))
noncomputable def m_rows_text : List A → Sto → Res A := runB 3 b_rows_text
theorem ok_rows_text {f : Addr} {fd : FuncData} (F : Fun K "rows_text" "rows_text" s_rows_text f fd) (gm : mg "rows_text" = some (.ref f)) (N : Fre K mg)  : C8.Cal P w K mg base 1 "rows_text" (spN K w 1 m_rows_text) [] := by
  refine mkCal F gm sc_rows_text (F.binds (ps := ["rows"]) fun _ _ _ _ _ _ us hl => match us, hl with | [_], _ => rfl) (fun vs H Q E h => ?_) (fun cdv A outer s H vs Q E hr h => ?_)
  · obtain ⟨_, _, _, hl, _⟩ := h
    exact hl
  · refine ⟨_, (pss_one (ps_ret (pe_join pe_str (pe_lc (own := [("row", 1)]) (g := gName 1) (tt := tYes) rfl sc_rows_text.nd (pi_tup (pv 0)) (blkOk_by (N := ["rows", "row", "part"]) (sc := defScope s_rows_text) (by decide +kernel)) (fun _ _ _ _ _ => pg_name (i := 1) sc_rows_text.nd rfl (Or.inl rfl)) (fun _ _ _ _ _ => pts_nil) (fun _ _ _ _ _ => (pe_joinK (K := K) pe_str (pe_lc (own := [("part", 2)]) (g := gName 2) (tt := tYes) (wi := iTup K (tVar 1)) rfl sc_rows_text.nd (pi_tup (pv 1)) (blkOk_by (N := ["rows", "row", "part"]) (by rfl)) (fun _ _ _ _ _ => pg_name (i := 2) sc_rows_text.nd rfl (Or.inl rfl)) (fun _ _ _ _ _ => pts_nil) (fun _ _ _ _ _ => (pe_callTy (show CallR _ _ rStrY from call_strY) (by rfl) N.str (by decide +kernel) (pa_cons (pv 2) pa_nil)))))))))), ?_⟩
    exact spN_body (b := b_rows_text) (show RS K w WF _ b_rows_text from (rs_ret (re_join re_str (re_lc (ri_tup (re_var (i := 0))) (rg_name (i := 1) (vs := [1]) (by decide)) rt_yes (re_join re_str (re_lc (ri_tup (re_var (i := 1))) (rg_name (i := 2) (vs := [2]) (by decide)) rt_yes (re_cb rl_strY (ra_cons (re_var (i := 2)) ra_nil)))))))) h
theorem st_rows_text (a0 : A) (st : Sto) : m_rows_text [a0] st = fin (b_rows_text [some a0, none, none] st) := rfl


/-! ### setup_text -/
abbrev s_setup_text : Stmt := topS 48
theorem sc_setup_text : FnScope ["setup", "files", "clients", "length", "drift"] ["setup"] (defScope s_setup_text) := ⟨rfl, rfl, rfl, by decide +kernel, rfl, by decide +kernel, by decide +kernel⟩

noncomputable def b_setup_text : MS := (sSeq (sAsg (mVar 0) (mgTup (mgCons (mgName 1) (mgCons (mgName 2) (mgCons (mgName 3) (mgCons (mgName 4) mgNil))))))
 (sRet (mJoined [(mC (.str "files ")), (mFmt (mCall 1 m_rows_text (mCons (mVar 1) mNil))), (mC (.str " clients ")), (mFmt (mCall 1 m_rows_text (mCons (mVar 2) mNil))), (mC (.str " length ")), (mFmt (mVar 3)), (mC (.str " drift ")), (mFmt (mVar 4))])))
noncomputable def m_setup_text : List A → Sto → Res A := runB 5 b_setup_text
theorem ok_setup_text {f : Addr} {fd : FuncData} (F : Fun K "setup_text" "setup_text" s_setup_text f fd) (gm : mg "setup_text" = some (.ref f)) (N : Fre K mg) (c_rows_text : C8.Cal P w K mg base 1 "rows_text" (spN K w 1 m_rows_text) []) : C8.Cal P w K mg base 2 "setup_text" (spN K w 1 m_setup_text) [] := by
  refine mkCal F gm sc_setup_text (F.binds (ps := ["setup"]) fun _ _ _ _ _ _ us hl => match us, hl with | [_], _ => rfl) (fun vs H Q E h => ?_) (fun cdv A outer s H vs Q E hr h => ?_)
  · obtain ⟨_, _, _, hl, _⟩ := h
    exact hl
  · refine ⟨_, (pss_cons (ps_asg (pv 0) (pg_tup rfl (pgs_cons (pg_name (i := 1) sc_setup_text.nd rfl (.inl rfl)) (pgs_cons (pg_name (i := 2) sc_setup_text.nd rfl (.inl rfl)) (pgs_cons (pg_name (i := 3) sc_setup_text.nd rfl (.inl rfl)) (pgs_cons (pg_name (i := 4) sc_setup_text.nd rfl (.inl rfl)) pgs_nil))))))
 (pss_one (ps_ret (pe_joined (PJ.cons pe_str (PJ.cons (pe_fmt (C8.pe_c c_rows_text hr (by decide) rfl (pa_cons (pv 1) pa_nil))) (PJ.cons pe_str (PJ.cons (pe_fmt (C8.pe_c c_rows_text hr (by decide) rfl (pa_cons (pv 2) pa_nil))) (PJ.cons pe_str (PJ.cons (pe_fmt (pv 3)) (PJ.cons pe_str (PJ.cons (pe_fmt (pv 4)) PJ.nil)))))))))))), ?_⟩
    exact spN_body (b := b_setup_text) (show RS K w WF _ b_setup_text from (rs_seq (rs_asg (re_var (i := 0)) (rg_tup (mgs_lenS (mgs_lenS (mgs_lenS (mgs_lenS mgs_len0)))) (rgs_cons (rg_name (i := 1) (vs := [1, 2, 3, 4]) (by decide)) (rgs_cons (rg_name (i := 2) (vs := [1, 2, 3, 4]) (by decide)) (rgs_cons (rg_name (i := 3) (vs := [1, 2, 3, 4]) (by decide)) (rgs_cons (rg_name (i := 4) (vs := [1, 2, 3, 4]) (by decide)) rgs_nil))))))
 (rs_ret (re_joined (RJ.cons re_str (RJ.cons (re_fmt (re_call (ra_cons (re_var (i := 1)) ra_nil))) (RJ.cons re_str (RJ.cons (re_fmt (re_call (ra_cons (re_var (i := 2)) ra_nil))) (RJ.cons re_str (RJ.cons (re_fmt (re_var (i := 3))) (RJ.cons re_str (RJ.cons (re_fmt (re_var (i := 4))) RJ.nil)))))))))))) h
theorem st_setup_text (a0 : A) (st : Sto) : m_setup_text [a0] st = fin (b_setup_text [some a0, none, none, none, none] st) := rfl

/-! ### read_setup -/
abbrev s_read_setup : Stmt := topS 49
theorem sc_read_setup : FnScope ["text", "setup"] ["text"] (defScope s_read_setup) := ⟨rfl, rfl, rfl, by decide +kernel, rfl, by decide +kernel, by decide +kernel⟩

noncomputable def b_read_setup : MS := (sSeq (sAsg (mIfE (mTest (mCB oIsi (mCons (mVar 0) (mCons (mC (.ty "str")) mNil)))) (mCall 1 m_setup_of (mCons (mVar 0) mNil)) (mC .non)) (mgName 1))
 (sSeq (sIf (mTest (mOp oIs (mVar 1) (mC .non)))
 sImp
 sNext)
 (sRet (mVar 1))))
noncomputable def m_read_setup : List A → Sto → Res A := runB 2 b_read_setup
theorem ok_read_setup {f : Addr} {fd : FuncData} (F : Fun K "read_setup" "read_setup" s_read_setup f fd) (gm : mg "read_setup" = some (.ref f)) (N : Fre K mg) (c_setup_of : C8.Cal P w K mg base 6 "setup_of" (spN K w 1 m_setup_of) []) : C8.Cal P w K mg base 7 "read_setup" (spN K w 1 m_read_setup) [] := by
  refine mkCal F gm sc_read_setup (F.binds (ps := ["text"]) fun _ _ _ _ _ _ us hl => match us, hl with | [_], _ => rfl) (fun vs H Q E h => ?_) (fun cdv A outer s H vs Q E hr h => ?_)
  · obtain ⟨_, _, _, hl, _⟩ := h
    exact hl
  · refine ⟨_, (pss_cons (ps_set (i := 1) sc_read_setup.nd rfl (.inl rfl) (pe_ifExp (pt_val (pe_callB (show CallR _ _ (rIsi K) from call_isi) (by rfl) N.isinstance (by decide +kernel) (pa_cons (pv 0) (pa_cons (pe_bltn (v := .ty "str") (u := .type "str") rfl N.str (by decide +kernel) rfl) pa_nil)))) (C8.pe_c c_setup_of hr (by decide) rfl (pa_cons (pv 0) pa_nil)) pe_non))
 (pss_cons (ps_if (pt_cmpR (show OpR _ _ rIsN from dIs) (pv 1) pe_non (nomark _))
 (pss_one ps_imp)
 pss_nil)
 (pss_one (ps_ret (pv 1))))), ?_⟩
    exact spN_body (b := b_read_setup) (show RS K w WF _ b_read_setup from (rs_seq (rs_asg (re_if (rt_val (re_cb rl_isi (ra_cons (re_var (i := 0)) (ra_cons (re_c fun _ _ => .ty _) ra_nil)))) (re_call (ra_cons (re_var (i := 0)) ra_nil)) re_non) (rg_name (i := 1) (vs := [1]) (by decide)))
 (rs_seq (rs_if (rt_test (re_op r2_isN (re_var (i := 1)) re_non))
 rs_imp
 rs_next)
 (rs_ret (re_var (i := 1)))))) h
theorem st_read_setup (a0 : A) (st : Sto) : m_read_setup [a0] st = fin (b_read_setup [some a0, none] st) := rfl

/-! ### _law_no_text -/
abbrev s__law_no_text : Stmt := topS 65
theorem sc__law_no_text : FnScope ["way", "text", "found", "kind", "row", "e"] ["way", "text"] (defScope s__law_no_text) := ⟨rfl, rfl, rfl, by decide +kernel, rfl, by decide +kernel, by decide +kernel⟩

noncomputable def b__law_no_text : MS := (sSeq (sAsg (mC .non) (mgName 2))
 (sSeq (sAsg (mC (.str "")) (mgName 3))
 (sSeq (sAsg (mC (.int 0)) (mgName 4))
 (sSeq (sIf (mTest (mOp oEqX (mVar 0) (mC (.int 0))))
 (sAsg (mCall 1 m_read_setup (mCons (mVar 1) mNil)) (mgName 2))
 (sIf (mTest (mOp oEqX (mVar 0) (mC (.int 1))))
 (sAsg mImp (mgName 2))
 (sAsg mImp (mgName 2))))
 (sRet (mTup (mCons (mVar 2) (mCons (mVar 3) (mCons (mVar 4) mNil)))))))))
noncomputable def m__law_no_text : List A → Sto → Res A := runB 6 b__law_no_text
theorem ok__law_no_text {f : Addr} {fd : FuncData} (F : Fun K "_law_no_text" "_law_no_text" s__law_no_text f fd) (gm : mg "_law_no_text" = some (.ref f)) (N : Fre K mg) (c_read_setup : C8.Cal P w K mg base 7 "read_setup" (spN K w 1 m_read_setup) []) : C8.Cal P w K mg base 8 "_law_no_text" (spN K w 2 m__law_no_text) [] := by
  refine mkCal F gm sc__law_no_text (F.binds (ps := ["way", "text"]) fun _ _ _ _ _ _ us hl => match us, hl with | [_, _], _ => rfl) (fun vs H Q E h => ?_) (fun cdv A outer s H vs Q E hr h => ?_)
  · obtain ⟨_, _, _, hl, _⟩ := h
    exact hl
  · refine ⟨_, (pss_cons (ps_set (i := 2) sc__law_no_text.nd rfl (.inl rfl) pe_non)
 (pss_cons (ps_set (i := 3) sc__law_no_text.nd rfl (.inl rfl) pe_str)
 (pss_cons (ps_set (i := 4) sc__law_no_text.nd rfl (.inl rfl) pe_int)
 (pss_cons (ps_try_thru0
 (pss_one (ps_if (pt_cmpR (show OpR _ _ (rEqX K) from (dEqX hr.units)) (pv 0) pe_int (nomark _))
 (pss_one (ps_set (i := 2) sc__law_no_text.nd rfl (.inl rfl) (C8.pe_c c_read_setup hr (by decide) rfl (pa_cons (pv 1) pa_nil))))
 (pss_one (ps_if (pt_cmpR (show OpR _ _ (rEqX K) from (dEqX hr.units)) (pv 0) pe_int (nomark _))
 (pss_one (ps_set (i := 2) sc__law_no_text.nd rfl (.inl rfl) pe_imp))
 (pss_one (ps_set (i := 2) sc__law_no_text.nd rfl (.inl rfl) pe_imp)))))))
 (pss_one (ps_ret (pe_tup (pa_cons (pv 2) (pa_cons (pv 3) (pa_cons (pv 4) pa_nil)))))))))), ?_⟩
    exact spN_body (b := b__law_no_text) (show RS K w WF _ b__law_no_text from (rs_seq (rs_asg re_non (rg_name (i := 2) (vs := [2]) (by decide)))
 (rs_seq (rs_asg re_str (rg_name (i := 3) (vs := [3]) (by decide)))
 (rs_seq (rs_asg re_int (rg_name (i := 4) (vs := [4]) (by decide)))
 (rs_seq (rs_if (rt_test (re_op r2_eqX (re_var (i := 0)) re_int))
 (rs_asg (re_call (ra_cons (re_var (i := 1)) ra_nil)) (rg_name (i := 2) (vs := [2]) (by decide)))
 (rs_if (rt_test (re_op r2_eqX (re_var (i := 0)) re_int))
 (rs_asg re_imp (rg_name (i := 2) (vs := [2]) (by decide)))
 (rs_asg re_imp (rg_name (i := 2) (vs := [2]) (by decide)))))
 (rs_ret (re_tup (ra_cons (re_var (i := 2)) (ra_cons (re_var (i := 3)) (ra_cons (re_var (i := 4)) ra_nil)))))))))) h
theorem st__law_no_text (a0 a1 : A) (st : Sto) : m__law_no_text [a0, a1] st = fin (b__law_no_text [some a0, some a1, none, none, none, none] st) := rfl

/-! ### the law -/
abbrev s_law : Stmt := topS 66
theorem sc_law : FnScope ["script", "last", "k", "bag", "setup", "text"] ["script"] (defScope s_law) := ⟨rfl, rfl, rfl, by decide +kernel, rfl, by decide +kernel, by decide +kernel⟩
noncomputable def lb_law_1 : MS := (sSeq (sAsg (mCall 2 m__law_bag (mCons (mVar 0) (mCons (mVar 2) mNil))) (mgName 3))
 (sSeq (sAsg (mCall 2 m__law_setup (mCons (mVar 3) (mCons (mC (.int 1)) mNil))) (mgName 4))
 (sSeq (sAsg (mCall 1 m_setup_text (mCons (mVar 4) mNil)) (mgName 5))
 (sSeq (sIf (mOrT (mTest (mOp oNeX (mVar 5) (mCall 1 m__law_setup_line (mCons (mVar 4) mNil)))) (mTest (mOp oNeX (mCall 2 m__law_no_text (mCons (mC (.int 0)) (mCons (mVar 5) mNil))) (mTup (mCons (mVar 4) (mCons (mC (.str "")) (mCons (mC (.int 0)) mNil)))))))
 (sRet (mC (.bl false)))
 sNext)
 (sSeq (sIf (mOrT (mNotT (mTest (mCall 1 m__law_is_setup (mCons (mCall 1 m_read_setup (mCons (mVar 5) mNil)) mNil)))) (mAndT (mTest (mOp oIsNot (mVar 1) (mC .non))) (mTest (mOp oNeX (mOp oEqX (mVar 5) (mCall 1 m_setup_text (mCons (mVar 1) mNil))) (mOp oEqX (mVar 4) (mVar 1))))))
 (sRet (mC (.bl false)))
 sNext)
 (sAsg (mVar 4) (mgName 1)))))))
noncomputable def b_law : MS := (sSeq (sAsg (mC .non) (mgName 1))
 (sSeq (sFor (miR1 (mCons (mOp oAddX (mC (.int 1)) (mCB oMin2 (mCons (mCB oLen (mCons (mVar 0) mNil)) (mCons (mC (.int 30)) mNil)))) mNil)) (mgName 2)
 lb_law_1)
 (sRet (mC (.bl true)))))
noncomputable def m_law : List A → Sto → Res A := runB 6 b_law
theorem st_law (a0 : A) (st : Sto) : m_law [a0] st = fin (b_law [some a0, none, none, none, none, none] st) := rfl
def splaw (K : PySem.W.Frag) : Sp := fun vs H Q _ => ∃ (a : Addr) (ns : List Int), vs = [.ref a] ∧ Only H ∧ SqL K H a (ns.map V.int) ∧ ns.length ≤ 63 ∧ ∀ H', Q (.bl true) H'
theorem law_start {w : World} {H : Hp} {a : Addr} {ns : List Int} {Q : VK} {E : XK} (ho : Only H) (hS : SqL K H a (ns.map V.int)) (h : ∃ st, m_law [.lit (ns.map A.int)] [] = .ok (.bl true) st) (q : ∀ H', Q (.bl true) H') : spN K w 1 m_law [.ref a] H Q E := by
  obtain ⟨st, e⟩ := h
  have hl : (∃ o, H a = some (.frz o (.lst (ns.map V.int)))) ∨ SqL K (fun _ => none) a (ns.map V.int) := by
    rcases hS with (h | ⟨o, h⟩) | h
    · rcases ho a with z | ⟨o, xs, z⟩
      · rw [z] at h
        cases h
      · rw [z] at h
        cases h
    · exact .inl ⟨o, h⟩
    · exact .inr (.inr h)
  refine ⟨[], [], [.lit (ns.map A.int)], rfl, ⟨rfl, List.nodup_nil, fun n a o h => by simp at h⟩, .cons (.lit hl (Rvs.ints ns)) .nil, ?_⟩
  show Post K w [] H (noX (m_law [.lit (ns.map A.int)] [])) _ _
  rw [e]
  exact fun ρ' H' e' r' v hv => by
    cases hv
    exact q H'
theorem ok_law_of (lt : ∀ ns : List Int, ns.length ≤ 63 → ∃ st, m_law [.lit (ns.map A.int)] [] = .ok (.bl true) st) {f : Addr} {fd : FuncData} (F : Fun K "law" "law" s_law f fd) (N : Fre K mg) (c__law_bag : C8.Cal P w K mg base 1 "_law_bag" (spN K w 2 m__law_bag) []) (c__law_is_setup : C8.Cal P w K mg base 3 "_law_is_setup" (spN K w 1 m__law_is_setup) []) (c__law_no_text : C8.Cal P w K mg base 8 "_law_no_text" (spN K w 2 m__law_no_text) []) (c__law_setup : C8.Cal P w K mg base 4 "_law_setup" (spN K w 2 m__law_setup) []) (c__law_setup_line : C8.Cal P w K mg base 1 "_law_setup_line" (spN K w 1 m__law_setup_line) []) (c_read_setup : C8.Cal P w K mg base 7 "read_setup" (spN K w 1 m_read_setup) []) (c_setup_text : C8.Cal P w K mg base 2 "setup_text" (spN K w 1 m_setup_text) []) : FnOk P w K mg base CX0 9 f fd ["script"] (splaw K) := by
  refine F.ok sc_law (fun vs H Q E h => ?_) (fun cdv A outer s H vs Q E hr h => ?_)
  · obtain ⟨a, ns, rfl, _⟩ := h
    rfl
  · obtain ⟨a, ns, rfl, ho, hS, hlen, q⟩ := h
    refine ⟨_, (pss_cons (ps_set (i := 1) sc_law.nd rfl (.inl rfl) pe_non)
 (pss_cons (ps_for PassesOwn.never rfl (pi_range1 (by rfl) N.range (pa_cons (pe_op (show OpR _ _ (rAddX K) from dAddX) pe_int (pe_callB (call_min2 rfl) (by rfl) N.min (by decide +kernel) (pa_cons (pe_callB (show CallR _ _ (rLenAny K) from call_lenAny) (by rfl) N.len (by decide +kernel) (pa_cons (pv 0) pa_nil)) (pa_cons pe_int pa_nil)))) pa_nil)) (pg_name (i := 2) sc_law.nd rfl (.inl rfl))
 (pss_cons (ps_set (i := 3) sc_law.nd rfl (.inl rfl) (C8.pe_c c__law_bag hr (by decide) rfl (pa_cons (pv 0) (pa_cons (pv 2) pa_nil))))
 (pss_cons (ps_set (i := 4) sc_law.nd rfl (.inl rfl) (C8.pe_c c__law_setup hr (by decide) rfl (pa_cons (pv 3) (pa_cons pe_int pa_nil))))
 (pss_cons (ps_set (i := 5) sc_law.nd rfl (.inl rfl) (C8.pe_c c_setup_text hr (by decide) rfl (pa_cons (pv 4) pa_nil)))
 (pss_cons (ps_if (PW.pt (pw_or (pt_cmpR (show OpR _ _ (rNeX K) from (dNeX hr.units)) (pv 5) (C8.pe_c c__law_setup_line hr (by decide) rfl (pa_cons (pv 4) pa_nil)) (nomark _)) (pw_or1 (pt_cmpR (show OpR _ _ (rNeX K) from (dNeX hr.units)) (C8.pe_c c__law_no_text hr (by decide) rfl (pa_cons pe_int (pa_cons (pv 5) pa_nil))) (pe_tup (pa_cons (pv 4) (pa_cons pe_str (pa_cons pe_int pa_nil)))) (nomark _)))))
 (pss_one (ps_ret pe_bl))
 pss_nil)
 (pss_cons (ps_if (PW.pt (pw_or (pt_not (pt_val (C8.pe_c c__law_is_setup hr (by decide) rfl (pa_cons (C8.pe_c c_read_setup hr (by decide) rfl (pa_cons (pv 5) pa_nil)) pa_nil)))) (pw_or1 (PW.pt (pw_and (pt_cmpR (show OpR _ _ rNotN from dIsNot) (pv 1) pe_non (nomark _)) (pw_and1 (pt_cmpR (show OpR _ _ (rNeX K) from (dNeX hr.units)) (pe_cmpR (show OpR _ _ (rEqX K) from (dEqX hr.units)) (pv 5) (C8.pe_c c_setup_text hr (by decide) rfl (pa_cons (pv 1) pa_nil)) (nomark _)) (pe_cmpR (show OpR _ _ (rEqX K) from (dEqX hr.units)) (pv 4) (pv 1) (nomark _)) (nomark _))))))))
 (pss_one (ps_ret pe_bl))
 pss_nil)
 (pss_one (ps_set (i := 1) sc_law.nd rfl (.inl rfl) (pv 4)))))))))
 (pss_one (ps_ret pe_bl)))), ?_⟩
    exact spN_body (b := b_law) (show RS K w WF _ b_law from (rs_seq (rs_asg re_non (rg_name (i := 1) (vs := [1]) (by decide)))
 (rs_seq (rs_for (ri_range1 (ra_cons (re_op r2_addX re_int (re_cb rl_min2 (ra_cons (re_cb rl_len (ra_cons (re_var (i := 0)) ra_nil)) (ra_cons re_int ra_nil)))) ra_nil)) (rg_name (i := 2) (vs := [2]) (by decide))
 (rs_seq (rs_asg (re_call (ra_cons (re_var (i := 0)) (ra_cons (re_var (i := 2)) ra_nil))) (rg_name (i := 3) (vs := [3]) (by decide)))
 (rs_seq (rs_asg (re_call (ra_cons (re_var (i := 3)) (ra_cons re_int ra_nil))) (rg_name (i := 4) (vs := [4]) (by decide)))
 (rs_seq (rs_asg (re_call (ra_cons (re_var (i := 4)) ra_nil)) (rg_name (i := 5) (vs := [5]) (by decide)))
 (rs_seq (rs_if (rt_or (rt_test (re_op r2_neX (re_var (i := 5)) (re_call (ra_cons (re_var (i := 4)) ra_nil)))) (rt_test (re_op r2_neX (re_call (ra_cons re_int (ra_cons (re_var (i := 5)) ra_nil))) (re_tup (ra_cons (re_var (i := 4)) (ra_cons re_str (ra_cons re_int ra_nil)))))))
 (rs_ret re_bl)
 rs_next)
 (rs_seq (rs_if (rt_or (rt_not (rt_val (re_call (ra_cons (re_call (ra_cons (re_var (i := 5)) ra_nil)) ra_nil)))) (rt_and (rt_test (re_op r2_notN (re_var (i := 1)) re_non)) (rt_test (re_op r2_neX (re_op r2_eqX (re_var (i := 5)) (re_call (ra_cons (re_var (i := 1)) ra_nil))) (re_op r2_eqX (re_var (i := 4)) (re_var (i := 1)))))))
 (rs_ret re_bl)
 rs_next)
 (rs_asg (re_var (i := 4)) (rg_name (i := 1) (vs := [1]) (by decide)))))))))
 (rs_ret re_bl)))) (law_start (E := E) ho hS (lt ns hlen) q)


/-! ### mirrors: a comprehension whose items draw -/
theorem lc_inv {n : Nat} {ok : Sto → Prop} {g : MG} {tt : MT} {te : ME} {env : AEnv} (I : Nat → List A → Sto → Prop) (hok : ∀ i acc S, I i acc S → ok S) : ∀ {xs : List A} {j : Nat},
    (∀ i x, xs[i]? = some x → ∀ acc S, I (j + i) acc S → ∃ e1 S1 y S2, g x env = some e1 ∧ tt e1 S = .ok true S1 ∧ te e1 S1 = .ok y S2 ∧ S2[n]? = some (.lst acc) ∧ acc.length < 16777216 ∧ I (j + i + 1) (acc ++ [y]) (S2.set n (.lst (acc ++ [y])))) →
    ∀ acc S, I j acc S → ∃ acc' S', lcL n ok g tt te env xs S = .ok (.ref n) S' ∧ I (j + xs.length) acc' S'
  | [], j, _, acc, S, h => ⟨acc, S, by
      unfold lcL
      rw [if_pos (hok _ _ _ h)], h⟩
  | x :: xs, j, hb, acc, S, h => by
    obtain ⟨e1, S1, y, S2, h1, h2, h3, h4, h5, h6⟩ := hb 0 x rfl acc S h
    obtain ⟨acc', S', h7, h8⟩ := lc_inv I hok (xs := xs) (j := j + 1) (fun i y hy acc S hI => by
      have := hb (i + 1) y (by simpa using hy) acc S (by rw [show j + (i + 1) = j + 1 + i by omega]; exact hI)
      rw [show j + (i + 1) + 1 = j + 1 + i + 1 by omega] at this
      exact this) _ _ h6
    refine ⟨acc', S', ?_, by rw [List.length_cons, show j + (xs.length + 1) = j + 1 + xs.length by omega]; exact h8⟩
    unfold lcL
    rw [if_pos (hok _ _ _ h), h1]
    simp only [h2, h3, ev_xok, ev_bok, if_true, h4]
    rw [if_pos (by rw [sizeLine_eq]; exact h5)]
    exact h7

/-! ### a name drawn -/
def alpha : Str := "abcdefghijklmnopqrstuvwxyz"
theorem alpha_all : ∀ c ∈ alpha.cps.toList, 97 ≤ c ∧ c ≤ 122 := by decide +kernel
theorem alpha_len : alpha.length = 26 ∧ alpha.cps.toList.length = 26 := by decide +kernel
def nameP (x : Str) : Prop := 1 ≤ x.length ∧ x.length ≤ 8 ∧ ∀ c ∈ x.cps.toList, 97 ≤ c ∧ c ≤ 122
def sign1 (c : Nat) : Str := ⟨#[c]⟩
theorem many_ev {st : Sto} {b : Nat} (hB : BagAt st b) : ∃ (m : Int) (S : Sto), 1 ≤ m ∧ m ≤ 8 ∧ Old b st S ∧ BagAt S b ∧
    (sAsg (mOp oAddX (mC (.int 1)) (mOp oIxD (mLst (mCons (mCall 2 m__law_take (mCons (mVar 0) (mCons (mC (.int 3)) mNil))) (mCons (mCall 2 m__law_take (mCons (mVar 0) (mCons (mC (.int 8)) mNil))) mNil))) (mCB oInt (mCons (mOp oEqX (mCall 2 m__law_take (mCons (mVar 0) (mCons (mC (.int 4)) mNil))) (mC (.int 0))) mNil)))) (mgName 1)) [some (.ref b), none, none] st = .fl (.nx [some (.ref b), some (.int m), none]) S := by
  obtain ⟨r1, S1, e1, r10, r11, o1, B1, l1⟩ := take_ev (m := 3) hB (by decide) (by decide)
  obtain ⟨r2, S2, e2, r20, r21, o2, B2, l2⟩ := take_ev (m := 8) B1 (by decide) (by decide)
  obtain ⟨r3, S3, e3, r30, r31, o3, B3, l3⟩ := take_ev (m := 4) (B2.app (.lst [.int r1, .int r2])) (by decide) (by decide)
  have hl := B2.lt
  have g3 : S3[S2.length]? = some (.lst [.int r1, .int r2]) := o3.get (List.getElem?_concat_length ..) (by omega)
  have O : Old b st S3 := ((o1.trans o2).trans (Old.app _ _ _)).trans o3
  have a0 : atI [A.int r1, A.int r2] 0 = some (.int r1) := rfl
  have a1 : atI [A.int r1, A.int r2] 1 = some (.int r2) := rfl
  by_cases h : r3 = 0
  · refine ⟨1 + r2, S3, by omega, by omega, O, B3, ?_⟩
    simp only [ev_bok, ev_bno, ev_bex, ev_tok, ev_tno, ev_tex, ev_nnx, ev_nrt, ev_nbk, ev_nct, ev_nex, ev_nno, ev_frt, ev_fnx, ev_fex, ev_xok, ev_lsome, ev_lnone, ev_seq, ev_if, ev_ret, ev_retN, ev_drop, ev_nop, ev_brk, ev_cont, ev_asgN, ev_asgT, ev_asgO, ev_mgTup, ev_mgN, ev_mgC, ev_mg0, ev_putL, ev_putO, ev_var, ev_vr, ev_c, ev_op, ev_un, ev_test, ev_tb, ev_notT, ev_andT, ev_orT, ev_ifE, ev_not, ev_nb, ev_and, ev_andK, ev_or, ev_orK, ev_chain, ev_chK, ev_nil, ev_cons, ev_tup, ev_lst, ev_new, ev_call, ev_cb, ev_size, ev_addI, ev_addS, ev_addT, ev_addL, ev_catO, ev_sub, ev_mul, ev_div, ev_mod, ev_p5, ev_p6, ev_p12, ev_p18, ev_p30, ev_neg, ev_ltI, ev_ltS, ev_leI, ev_leS, ev_gt, ev_ge, ev_eqI, ev_eqS, ev_neI, ev_neS, ev_neB, ev_eqB, ev_is, ev_isnot, ev_ixT, ev_ixS, ev_ixR, ev_ixL, ev_ixK, ev_getL, ev_getM, ev_gL, ev_gM, ev_at0, ev_at1, ev_at2, ev_at3, ev_at4, ev_lenS, ev_lenR, ev_lenT, ev_lenL, ev_lenO, ev_lenD, ev_abs, ev_min2, ev_max2, ev_intI, ev_intB, ev_set, ev_fc, ev_setset, ev_last, ev_appk, ev_app0, ev_setk, ev_set0, ev_assoc, ev_lapp, ev_lappA, ev_sl, ev_nopart, ev_part, ev_ptK, ev_slT, ev_slS, ev_slR, ev_slK, ev_tyN, ev_tyB, ev_tyI, ev_tyS, ev_tyT, ev_tyL, ev_tyR, ev_tyRL, ev_isi, ev_isi1, ev_isi2, ev_isi3, ev_isi4, ev_isi5, ev_isiT, ev_isi2K, ev_isTy, ev_list, ev_listK, ev_tuple, ev_tupK, ev_getST, ev_getSR, ev_getSL, ev_all, ev_allK, ev_eqXI, ev_eqXS, ev_neXI, ev_neXS, ev_neXB, ev_eqXB, ev_eqXR, ev_neXR, ev_nil2, ev_eqK, ev_neK, ev_meth, ev_meth0, ev_mth1, ev_mth2, ev_mth3, ev_append, ev_m0, ev_m0K, ev_str, ev_for, ev_miR1, ev_rg1K, ev_miL, ev_liK, ev_miT, ev_tiK, ev_lc, ev_wipe0, ev_wipeS, ev_yes, ev_lenSet, ev_lenSetK, ev_listR, ev_lrK, ev_put2, ev_p2A, ev_p2K, ev_p2E, ev_put1, ev_pt1, ev_addXI, ev_addXB, ev_addXS, ev_addXT, ev_addXL, ev_subXI, ev_subXB, ev_mulXI, ev_mulXB, ev_mulXL, ev_negXI, ev_negXB, ev_strXI, ev_strXB, ev_mulYI, ev_mulYB, ev_mulYL, ev_mulYT, ev_dnew, ev_dnewT, ev_dgetE, ev_getD, ev_gD, ev_keyI, ev_keyS, ev_dgK, ev_dinE, ev_diK, ev_dputE, ev_dpK, ev_dget2E, ev_isDA, ev_isSome, ev_isNone, ev_dg2K, ev_dpop2E, ev_dp2K, ev_dp3S, ev_dp3N, ev_sortedE, ev_srO1, ev_srO2, ev_gLd, ev_srKS, ev_srKI, ev_gDT, ev_gT, ev_tinE, ev_tiKK, ev_keysA, ev_keysN, ev_keysC, ev_dputTE, ev_dptK, ev_dispE, ev_mpN, ev_mpC, ev_pcK, ev_dsK, ev_dsK2, ev_lc2E, ev_imp, ev_simp, ev_split, ev_splF, ev_splG, ev_fmt, ev_fmtS, ev_fmtI, ev_addK, ev_js0, ev_js1, ev_joined, ev_star, ev_starK, ev_each2, ev_each2K, ev_unl, ev_unlK, ev_intS, ev_strYS, ev_strYI, List.getElem?_cons_zero, List.getElem?_cons_succ, List.set_cons_zero, List.set_cons_succ, List.length_cons, List.length_nil, List.cons_append, List.nil_append, if_true, if_false, Bool.false_eq_true, Bool.true_eq_false, reduceIte, Bool.not_true, Bool.not_false, Bool.and_true, Bool.true_and, Bool.and_false, Bool.false_and, Bool.or_true, Bool.true_or, Bool.or_false, Bool.false_or, decide_eq_true_eq, Nat.reduceAdd, Nat.reduceLeDiff, Nat.zero_add, Int.reduceLT, Int.reduceLE, Int.reduceEq, Int.reduceNeg, Nat.reduceEqDiff, and_self, and_true, true_and, decide_true, decide_false, eq_self, ite_true, ite_false, Int.reduceSub, Int.reduceAdd, Int.cast_ofNat_Int, Int.natCast_add, Int.cast_ofNat_Int, Nat.reduceSub, Nat.add_assoc, String.reduceBEq, String.reduceEq, Bool.or_not_self, beq_self_eq_true, e1, e2, e3, h, g3, a1]
  · refine ⟨1 + r1, S3, by omega, by omega, O, B3, ?_⟩
    simp only [ev_bok, ev_bno, ev_bex, ev_tok, ev_tno, ev_tex, ev_nnx, ev_nrt, ev_nbk, ev_nct, ev_nex, ev_nno, ev_frt, ev_fnx, ev_fex, ev_xok, ev_lsome, ev_lnone, ev_seq, ev_if, ev_ret, ev_retN, ev_drop, ev_nop, ev_brk, ev_cont, ev_asgN, ev_asgT, ev_asgO, ev_mgTup, ev_mgN, ev_mgC, ev_mg0, ev_putL, ev_putO, ev_var, ev_vr, ev_c, ev_op, ev_un, ev_test, ev_tb, ev_notT, ev_andT, ev_orT, ev_ifE, ev_not, ev_nb, ev_and, ev_andK, ev_or, ev_orK, ev_chain, ev_chK, ev_nil, ev_cons, ev_tup, ev_lst, ev_new, ev_call, ev_cb, ev_size, ev_addI, ev_addS, ev_addT, ev_addL, ev_catO, ev_sub, ev_mul, ev_div, ev_mod, ev_p5, ev_p6, ev_p12, ev_p18, ev_p30, ev_neg, ev_ltI, ev_ltS, ev_leI, ev_leS, ev_gt, ev_ge, ev_eqI, ev_eqS, ev_neI, ev_neS, ev_neB, ev_eqB, ev_is, ev_isnot, ev_ixT, ev_ixS, ev_ixR, ev_ixL, ev_ixK, ev_getL, ev_getM, ev_gL, ev_gM, ev_at0, ev_at1, ev_at2, ev_at3, ev_at4, ev_lenS, ev_lenR, ev_lenT, ev_lenL, ev_lenO, ev_lenD, ev_abs, ev_min2, ev_max2, ev_intI, ev_intB, ev_set, ev_fc, ev_setset, ev_last, ev_appk, ev_app0, ev_setk, ev_set0, ev_assoc, ev_lapp, ev_lappA, ev_sl, ev_nopart, ev_part, ev_ptK, ev_slT, ev_slS, ev_slR, ev_slK, ev_tyN, ev_tyB, ev_tyI, ev_tyS, ev_tyT, ev_tyL, ev_tyR, ev_tyRL, ev_isi, ev_isi1, ev_isi2, ev_isi3, ev_isi4, ev_isi5, ev_isiT, ev_isi2K, ev_isTy, ev_list, ev_listK, ev_tuple, ev_tupK, ev_getST, ev_getSR, ev_getSL, ev_all, ev_allK, ev_eqXI, ev_eqXS, ev_neXI, ev_neXS, ev_neXB, ev_eqXB, ev_eqXR, ev_neXR, ev_nil2, ev_eqK, ev_neK, ev_meth, ev_meth0, ev_mth1, ev_mth2, ev_mth3, ev_append, ev_m0, ev_m0K, ev_str, ev_for, ev_miR1, ev_rg1K, ev_miL, ev_liK, ev_miT, ev_tiK, ev_lc, ev_wipe0, ev_wipeS, ev_yes, ev_lenSet, ev_lenSetK, ev_listR, ev_lrK, ev_put2, ev_p2A, ev_p2K, ev_p2E, ev_put1, ev_pt1, ev_addXI, ev_addXB, ev_addXS, ev_addXT, ev_addXL, ev_subXI, ev_subXB, ev_mulXI, ev_mulXB, ev_mulXL, ev_negXI, ev_negXB, ev_strXI, ev_strXB, ev_mulYI, ev_mulYB, ev_mulYL, ev_mulYT, ev_dnew, ev_dnewT, ev_dgetE, ev_getD, ev_gD, ev_keyI, ev_keyS, ev_dgK, ev_dinE, ev_diK, ev_dputE, ev_dpK, ev_dget2E, ev_isDA, ev_isSome, ev_isNone, ev_dg2K, ev_dpop2E, ev_dp2K, ev_dp3S, ev_dp3N, ev_sortedE, ev_srO1, ev_srO2, ev_gLd, ev_srKS, ev_srKI, ev_gDT, ev_gT, ev_tinE, ev_tiKK, ev_keysA, ev_keysN, ev_keysC, ev_dputTE, ev_dptK, ev_dispE, ev_mpN, ev_mpC, ev_pcK, ev_dsK, ev_dsK2, ev_lc2E, ev_imp, ev_simp, ev_split, ev_splF, ev_splG, ev_fmt, ev_fmtS, ev_fmtI, ev_addK, ev_js0, ev_js1, ev_joined, ev_star, ev_starK, ev_each2, ev_each2K, ev_unl, ev_unlK, ev_intS, ev_strYS, ev_strYI, List.getElem?_cons_zero, List.getElem?_cons_succ, List.set_cons_zero, List.set_cons_succ, List.length_cons, List.length_nil, List.cons_append, List.nil_append, if_true, if_false, Bool.false_eq_true, Bool.true_eq_false, reduceIte, Bool.not_true, Bool.not_false, Bool.and_true, Bool.true_and, Bool.and_false, Bool.false_and, Bool.or_true, Bool.true_or, Bool.or_false, Bool.false_or, decide_eq_true_eq, Nat.reduceAdd, Nat.reduceLeDiff, Nat.zero_add, Int.reduceLT, Int.reduceLE, Int.reduceEq, Int.reduceNeg, Nat.reduceEqDiff, and_self, and_true, true_and, decide_true, decide_false, eq_self, ite_true, ite_false, Int.reduceSub, Int.reduceAdd, Int.cast_ofNat_Int, Int.natCast_add, Int.cast_ofNat_Int, Nat.reduceSub, Nat.add_assoc, String.reduceBEq, String.reduceEq, Bool.or_not_self, beq_self_eq_true, e1, e2, e3, h, g3, a0, decide_false]
theorem join_signs (cs : List Nat) : Txt.join (Str.ofString "") (cs.map sign1) = (⟨cs.toArray⟩ : Str) := by
  rw [eq_of_beq (PyProof.Rows.join_plain_closes (Str.ofString "") (cs.map sign1))]
  have h := PyProof.Rows.join_nil_signs (⟨cs.toArray⟩ : Str)
  have e : PyProof.Rows.signs (⟨cs.toArray⟩ : Str) = cs.map sign1 := by
    unfold PyProof.Rows.signs
    simp [sign1]
  rw [e] at h
  exact h
theorem strsOf_map : ∀ xs : List Str, strsOf (xs.map A.str) = some xs
  | [] => rfl
  | x :: xs => by simp only [List.map_cons, strsOf, strsOf_map xs, Option.map_some]
theorem sum_ones : ∀ cs : List Nat, ((cs.map sign1).map (·.length)).sum = cs.length
  | [] => rfl
  | c :: cs => by
    rw [List.map_cons, List.map_cons, List.sum_cons, sum_ones cs, List.length_cons]
    show 1 + cs.length = _
    omega
theorem rngL {n : Nat} : (rngA 0 n).length = n := by
  unfold rngA
  rw [List.length_map, List.length_range]
theorem name_ev {st : Sto} {b : Nat} (hB : BagAt st b) : ∃ x st', m__law_name [.ref b] st = .ok (.str x) st' ∧ nameP x ∧ Old b st st' ∧ BagAt st' b := by
  obtain ⟨m, S, m1, m8, O, B, e⟩ := many_ev hB
  have hl := B.lt
  obtain ⟨acc, S', e2, cs, rfl, hcs, hlen, O2, B2, g2⟩ := lc_inv (n := S.length) (ok := okT) (g := mgName 2) (tt := mYes) (te := mOp oIxD (mC (.str "abcdefghijklmnopqrstuvwxyz")) (mCall 2 m__law_take (mCons (mVar 0) (mCons (mC (.int 26)) mNil)))) (env := [some (.ref b), some (.int m), none])
    (fun i acc T => ∃ cs : List Nat, acc = cs.map (fun c => A.str (sign1 c)) ∧ (∀ c ∈ cs, 97 ≤ c ∧ c ≤ 122) ∧ cs.length = i ∧ Old b S T ∧ BagAt T b ∧ T[S.length]? = some (.lst acc)) (fun _ _ _ _ => trivial) (xs := rngA 0 m.toNat) (j := 0)
    (fun i x hx acc T hI => by
      obtain ⟨cs, rfl, hcs, hlen, O1, B1, g1⟩ := hI
      have hi : i < m.toNat := by
        have := (List.getElem?_eq_some_iff.mp hx).1
        unfold rngA at this
        rw [List.length_map, List.length_range] at this
        exact this
      obtain ⟨r, T1, e1, r0, r1, o1, B2, l2⟩ := take_ev (m := 26) B1 (by decide) (by decide)
      have hk : r.toNat < alpha.cps.toList.length := by rw [alpha_len.2]; omega
      have hat : atI alpha.cps.toList r = some alpha.cps.toList[r.toNat] := by
        obtain ⟨q, rfl⟩ : ∃ q : Nat, r = (q : Int) := ⟨r.toNat, by omega⟩
        exact atI_nat (List.getElem?_eq_getElem hk)
      have g2 := o1.get g1 (by omega)
      have hlt := (List.getElem?_eq_some_iff.mp g2).1
      refine ⟨_, T, .str (sign1 alpha.cps.toList[r.toNat]), T1, rfl, rfl, ?_, g2, by rw [List.length_map]; omega, cs ++ [alpha.cps.toList[r.toNat]], by rw [List.map_append]; rfl, fun c hc => ?_, by rw [List.length_append, List.length_singleton]; omega, (O1.trans o1).putNew (Nat.le_refl _), B2.put _ (by omega), List.getElem?_set_self hlt⟩
      · have al : (Str.ofString "abcdefghijklmnopqrstuvwxyz") = alpha := rfl
        have ll : (alpha.length ≤ 16777216) = True := eq_true (by rw [alpha_len.1]; decide)
        simp only [ev_bok, ev_bno, ev_bex, ev_tok, ev_tno, ev_tex, ev_nnx, ev_nrt, ev_nbk, ev_nct, ev_nex, ev_nno, ev_frt, ev_fnx, ev_fex, ev_xok, ev_lsome, ev_lnone, ev_seq, ev_if, ev_ret, ev_retN, ev_drop, ev_nop, ev_brk, ev_cont, ev_asgN, ev_asgT, ev_asgO, ev_mgTup, ev_mgN, ev_mgC, ev_mg0, ev_putL, ev_putO, ev_var, ev_vr, ev_c, ev_op, ev_un, ev_test, ev_tb, ev_notT, ev_andT, ev_orT, ev_ifE, ev_not, ev_nb, ev_and, ev_andK, ev_or, ev_orK, ev_chain, ev_chK, ev_nil, ev_cons, ev_tup, ev_lst, ev_new, ev_call, ev_cb, ev_size, ev_addI, ev_addS, ev_addT, ev_addL, ev_catO, ev_sub, ev_mul, ev_div, ev_mod, ev_p5, ev_p6, ev_p12, ev_p18, ev_p30, ev_neg, ev_ltI, ev_ltS, ev_leI, ev_leS, ev_gt, ev_ge, ev_eqI, ev_eqS, ev_neI, ev_neS, ev_neB, ev_eqB, ev_is, ev_isnot, ev_ixT, ev_ixS, ev_ixR, ev_ixL, ev_ixK, ev_getL, ev_getM, ev_gL, ev_gM, ev_at0, ev_at1, ev_at2, ev_at3, ev_at4, ev_lenS, ev_lenR, ev_lenT, ev_lenL, ev_lenO, ev_lenD, ev_abs, ev_min2, ev_max2, ev_intI, ev_intB, ev_set, ev_fc, ev_setset, ev_last, ev_appk, ev_app0, ev_setk, ev_set0, ev_assoc, ev_lapp, ev_lappA, ev_sl, ev_nopart, ev_part, ev_ptK, ev_slT, ev_slS, ev_slR, ev_slK, ev_tyN, ev_tyB, ev_tyI, ev_tyS, ev_tyT, ev_tyL, ev_tyR, ev_tyRL, ev_isi, ev_isi1, ev_isi2, ev_isi3, ev_isi4, ev_isi5, ev_isiT, ev_isi2K, ev_isTy, ev_list, ev_listK, ev_tuple, ev_tupK, ev_getST, ev_getSR, ev_getSL, ev_all, ev_allK, ev_eqXI, ev_eqXS, ev_neXI, ev_neXS, ev_neXB, ev_eqXB, ev_eqXR, ev_neXR, ev_nil2, ev_eqK, ev_neK, ev_meth, ev_meth0, ev_mth1, ev_mth2, ev_mth3, ev_append, ev_m0, ev_m0K, ev_str, ev_for, ev_miR1, ev_rg1K, ev_miL, ev_liK, ev_miT, ev_tiK, ev_lc, ev_wipe0, ev_wipeS, ev_yes, ev_lenSet, ev_lenSetK, ev_listR, ev_lrK, ev_put2, ev_p2A, ev_p2K, ev_p2E, ev_put1, ev_pt1, ev_addXI, ev_addXB, ev_addXS, ev_addXT, ev_addXL, ev_subXI, ev_subXB, ev_mulXI, ev_mulXB, ev_mulXL, ev_negXI, ev_negXB, ev_strXI, ev_strXB, ev_mulYI, ev_mulYB, ev_mulYL, ev_mulYT, ev_dnew, ev_dnewT, ev_dgetE, ev_getD, ev_gD, ev_keyI, ev_keyS, ev_dgK, ev_dinE, ev_diK, ev_dputE, ev_dpK, ev_dget2E, ev_isDA, ev_isSome, ev_isNone, ev_dg2K, ev_dpop2E, ev_dp2K, ev_dp3S, ev_dp3N, ev_sortedE, ev_srO1, ev_srO2, ev_gLd, ev_srKS, ev_srKI, ev_gDT, ev_gT, ev_tinE, ev_tiKK, ev_keysA, ev_keysN, ev_keysC, ev_dputTE, ev_dptK, ev_dispE, ev_mpN, ev_mpC, ev_pcK, ev_dsK, ev_dsK2, ev_lc2E, ev_imp, ev_simp, ev_split, ev_splF, ev_splG, ev_fmt, ev_fmtS, ev_fmtI, ev_addK, ev_js0, ev_js1, ev_joined, ev_star, ev_starK, ev_each2, ev_each2K, ev_unl, ev_unlK, ev_intS, ev_strYS, ev_strYI, List.getElem?_cons_zero, List.getElem?_cons_succ, List.set_cons_zero, List.set_cons_succ, List.length_cons, List.length_nil, List.cons_append, List.nil_append, if_true, if_false, Bool.false_eq_true, Bool.true_eq_false, reduceIte, Bool.not_true, Bool.not_false, Bool.and_true, Bool.true_and, Bool.and_false, Bool.false_and, Bool.or_true, Bool.true_or, Bool.or_false, Bool.false_or, decide_eq_true_eq, Nat.reduceAdd, Nat.reduceLeDiff, Nat.zero_add, Int.reduceLT, Int.reduceLE, Int.reduceEq, Int.reduceNeg, Nat.reduceEqDiff, and_self, and_true, true_and, decide_true, decide_false, eq_self, ite_true, ite_false, Int.reduceSub, Int.reduceAdd, Int.cast_ofNat_Int, Int.natCast_add, Int.cast_ofNat_Int, Nat.reduceSub, Nat.add_assoc, String.reduceBEq, String.reduceEq, Bool.or_not_self, beq_self_eq_true, e1, al, ll, hat, Option.map_some]
        rfl
      · rcases List.mem_append.mp hc with hc | hc
        · exact hcs c hc
        · rw [List.mem_singleton.mp hc]
          exact alpha_all _ (List.getElem_mem hk)) [] (S ++ [.lst []]) ⟨[], rfl, by simp, rfl, Old.app _ _ _, B.app _, List.getElem?_concat_length ..⟩
  rw [Nat.zero_add, rngL] at hlen
  have es : strsOf (cs.map fun c => A.str (sign1 c)) = some (cs.map sign1) := by
    rw [← strsOf_map, List.map_map]
    rfl
  have gs : getS S' (.ref S.length) = some (cs.map fun c => A.str (sign1 c)) := by
    show gL S'[S.length]? = _
    rw [g2]
    rfl
  refine ⟨⟨cs.toArray⟩, S', ?_, ⟨?_, ?_, ?_⟩, O.trans O2, B2⟩
  · rw [st__law_name]
    unfold b__law_name
    have c1 : (-(2 ^ 62) ≤ m ∧ m < 2 ^ 62) = True := eq_true ⟨by omega, by omega⟩
    have ej : mJoin (mC (.str "")) (mLc (miR1 (mCons (mVar 1) mNil)) (mgName 2) mYes (mOp oIxD (mC (.str "abcdefghijklmnopqrstuvwxyz")) (mCall 2 m__law_take (mCons (mVar 0) (mCons (mC (.int 26)) mNil)))) [2]) [some (.ref b), some (.int m), none] S = .ok (.str ⟨cs.toArray⟩) S' := by
      have el : mLc (miR1 (mCons (mVar 1) mNil)) (mgName 2) mYes (mOp oIxD (mC (.str "abcdefghijklmnopqrstuvwxyz")) (mCall 2 m__law_take (mCons (mVar 0) (mCons (mC (.int 26)) mNil)))) [2] [some (.ref b), some (.int m), none] S = .ok (.ref S.length) S' := by
        simp only [ev_bok, ev_bno, ev_bex, ev_tok, ev_tno, ev_tex, ev_nnx, ev_nrt, ev_nbk, ev_nct, ev_nex, ev_nno, ev_frt, ev_fnx, ev_fex, ev_xok, ev_lsome, ev_lnone, ev_seq, ev_if, ev_ret, ev_retN, ev_drop, ev_nop, ev_brk, ev_cont, ev_asgN, ev_asgT, ev_asgO, ev_mgTup, ev_mgN, ev_mgC, ev_mg0, ev_putL, ev_putO, ev_var, ev_vr, ev_c, ev_op, ev_un, ev_test, ev_tb, ev_notT, ev_andT, ev_orT, ev_ifE, ev_not, ev_nb, ev_and, ev_andK, ev_or, ev_orK, ev_chain, ev_chK, ev_nil, ev_cons, ev_tup, ev_lst, ev_new, ev_call, ev_cb, ev_size, ev_addI, ev_addS, ev_addT, ev_addL, ev_catO, ev_sub, ev_mul, ev_div, ev_mod, ev_p5, ev_p6, ev_p12, ev_p18, ev_p30, ev_neg, ev_ltI, ev_ltS, ev_leI, ev_leS, ev_gt, ev_ge, ev_eqI, ev_eqS, ev_neI, ev_neS, ev_neB, ev_eqB, ev_is, ev_isnot, ev_ixT, ev_ixS, ev_ixR, ev_ixL, ev_ixK, ev_getL, ev_getM, ev_gL, ev_gM, ev_at0, ev_at1, ev_at2, ev_at3, ev_at4, ev_lenS, ev_lenR, ev_lenT, ev_lenL, ev_lenO, ev_lenD, ev_abs, ev_min2, ev_max2, ev_intI, ev_intB, ev_set, ev_fc, ev_setset, ev_last, ev_appk, ev_app0, ev_setk, ev_set0, ev_assoc, ev_lapp, ev_lappA, ev_sl, ev_nopart, ev_part, ev_ptK, ev_slT, ev_slS, ev_slR, ev_slK, ev_tyN, ev_tyB, ev_tyI, ev_tyS, ev_tyT, ev_tyL, ev_tyR, ev_tyRL, ev_isi, ev_isi1, ev_isi2, ev_isi3, ev_isi4, ev_isi5, ev_isiT, ev_isi2K, ev_isTy, ev_list, ev_listK, ev_tuple, ev_tupK, ev_getST, ev_getSR, ev_getSL, ev_all, ev_allK, ev_eqXI, ev_eqXS, ev_neXI, ev_neXS, ev_neXB, ev_eqXB, ev_eqXR, ev_neXR, ev_nil2, ev_eqK, ev_neK, ev_meth, ev_meth0, ev_mth1, ev_mth2, ev_mth3, ev_append, ev_m0, ev_m0K, ev_str, ev_for, ev_miR1, ev_rg1K, ev_miL, ev_liK, ev_miT, ev_tiK, ev_lc, ev_wipe0, ev_wipeS, ev_yes, ev_lenSet, ev_lenSetK, ev_listR, ev_lrK, ev_put2, ev_p2A, ev_p2K, ev_p2E, ev_put1, ev_pt1, ev_addXI, ev_addXB, ev_addXS, ev_addXT, ev_addXL, ev_subXI, ev_subXB, ev_mulXI, ev_mulXB, ev_mulXL, ev_negXI, ev_negXB, ev_strXI, ev_strXB, ev_mulYI, ev_mulYB, ev_mulYL, ev_mulYT, ev_dnew, ev_dnewT, ev_dgetE, ev_getD, ev_gD, ev_keyI, ev_keyS, ev_dgK, ev_dinE, ev_diK, ev_dputE, ev_dpK, ev_dget2E, ev_isDA, ev_isSome, ev_isNone, ev_dg2K, ev_dpop2E, ev_dp2K, ev_dp3S, ev_dp3N, ev_sortedE, ev_srO1, ev_srO2, ev_gLd, ev_srKS, ev_srKI, ev_gDT, ev_gT, ev_tinE, ev_tiKK, ev_keysA, ev_keysN, ev_keysC, ev_dputTE, ev_dptK, ev_dispE, ev_mpN, ev_mpC, ev_pcK, ev_dsK, ev_dsK2, ev_lc2E, ev_imp, ev_simp, ev_split, ev_splF, ev_splG, ev_fmt, ev_fmtS, ev_fmtI, ev_addK, ev_js0, ev_js1, ev_joined, ev_star, ev_starK, ev_each2, ev_each2K, ev_unl, ev_unlK, ev_intS, ev_strYS, ev_strYI, List.getElem?_cons_zero, List.getElem?_cons_succ, List.set_cons_zero, List.set_cons_succ, List.length_cons, List.length_nil, List.cons_append, List.nil_append, if_true, if_false, Bool.false_eq_true, Bool.true_eq_false, reduceIte, Bool.not_true, Bool.not_false, Bool.and_true, Bool.true_and, Bool.and_false, Bool.false_and, Bool.or_true, Bool.true_or, Bool.or_false, Bool.false_or, decide_eq_true_eq, Nat.reduceAdd, Nat.reduceLeDiff, Nat.zero_add, Int.reduceLT, Int.reduceLE, Int.reduceEq, Int.reduceNeg, Nat.reduceEqDiff, and_self, and_true, true_and, decide_true, decide_false, eq_self, ite_true, ite_false, Int.reduceSub, Int.reduceAdd, Int.cast_ofNat_Int, Int.natCast_add, Int.cast_ofNat_Int, Nat.reduceSub, Nat.add_assoc, String.reduceBEq, String.reduceEq, Bool.or_not_self, beq_self_eq_true, c1]
        exact e2
      show ((mLc (miR1 (mCons (mVar 1) mNil)) (mgName 2) mYes (mOp oIxD (mC (.str "abcdefghijklmnopqrstuvwxyz")) (mCall 2 m__law_take (mCons (mVar 0) (mCons (mC (.int 26)) mNil)))) [2] [some (.ref b), some (.int m), none] S).bind fun a s => joinK (Str.ofString "") ((getS s a).bind strsOf) s) = _
      rw [el]
      show joinK (Str.ofString "") ((getS S' (.ref S.length)).bind strsOf) S' = _
      rw [gs]
      show joinK (Str.ofString "") (strsOf (cs.map fun c => A.str (sign1 c))) S' = _
      rw [es]
      show (if ((cs.map sign1).map (·.length)).sum + (cs.map sign1).length * (Str.ofString "").length ≤ 16777216 then (.ok (.str (Txt.join (Str.ofString "") (cs.map sign1))) S' : Res A) else .no) = _
      rw [if_pos (by rw [sum_ones]; show cs.length + _ * 0 ≤ _; omega), join_signs]
    rw [ev_seq, e, ev_nnx, ev_ret, ej]
    rfl
  · show 1 ≤ cs.toArray.size
    rw [List.size_toArray]
    omega
  · show cs.toArray.size ≤ 8
    rw [List.size_toArray]
    omega
  · intro c hc
    exact hcs c (by simpa using hc)

/-! ### mirrors: what a loop keeps -/
theorem forL_inv {ok : Sto → Prop} {g : MG} {b : MS} (I : Nat → AEnv → Sto → Prop) (hok : ∀ i env S, I i env S → ok S) : ∀ {xs : List A} {j : Nat}, (∀ i x, xs[i]? = some x → ∀ env S, I (j + i) env S → ∃ e1 e2 S', g x env = some e1 ∧ b e1 S = .fl (.nx e2) S' ∧ I (j + i + 1) e2 S') →
    ∀ env S, I j env S → ∃ e2 S', forL ok g b xs env S = .fl (.nx e2) S' ∧ I (j + xs.length) e2 S'
  | [], j, _, env, S, h => ⟨env, S, by
      unfold forL
      rw [if_pos (hok _ _ _ h)], h⟩
  | x :: xs, j, hb, env, S, h => by
    obtain ⟨e1, e2, S', h1, h2, h3⟩ := hb 0 x rfl env S h
    obtain ⟨e3, S3, h4, h5⟩ := forL_inv I hok (xs := xs) (j := j + 1) (fun i y hy env S hI => by
      have := hb (i + 1) y (by simpa using hy) env S (by rw [show j + (i + 1) = j + 1 + i by omega]; exact hI)
      rw [show j + (i + 1) + 1 = j + 1 + i + 1 by omega] at this
      exact this) e2 S' h3
    refine ⟨e3, S3, ?_, by rw [List.length_cons, show j + (xs.length + 1) = j + 1 + xs.length by omega]; exact h5⟩
    unfold forL
    rw [if_pos (hok _ _ _ h), h1]
    simp only [h2]
    exact h4
theorem whileF_inv {c : MT} {b : MS} (J : Nat → AEnv → Sto → Prop) (h0 : ∀ env S, J 0 env S → ∃ S', c env S = .ok false S' ∧ J 0 env S') (hs : ∀ k env S, J (k + 1) env S → ∃ S' e2 S2, c env S = .ok true S' ∧ b env S' = .fl (.nx e2) S2 ∧ J k e2 S2) : ∀ (k fuel : Nat) (env : AEnv) (S : Sto), k < fuel → J k env S → ∃ e2 S2, whileF c b fuel env S = .fl (.nx e2) S2 ∧ J 0 e2 S2
  | 0, fuel + 1, env, S, _, h => by
    obtain ⟨S', e, h'⟩ := h0 env S h
    refine ⟨env, S', ?_, h'⟩
    unfold whileF
    rw [e]
    rfl
  | k + 1, fuel + 1, env, S, hf, h => by
    obtain ⟨S', e2, S2, e, eb, h'⟩ := hs k env S h
    obtain ⟨e3, S3, ew, hJ⟩ := whileF_inv J h0 hs k fuel e2 S2 (by omega) h'
    refine ⟨e3, S3, ?_, hJ⟩
    unfold whileF
    rw [e]
    simp only [ev_tok, if_true, eb]
    exact ew
  | _, 0, _, _, hf, _ => by omega
theorem pickI {ns : List Int} {i : Int} (h0 : 0 ≤ i) (h1 : i < ns.length) : ∃ m, m ∈ ns ∧ atI (ns.map A.int) i = some (.int m) ∧ ns[i.toNat]? = some m := by
  obtain ⟨k, rfl⟩ : ∃ k : Nat, i = (k : Int) := ⟨i.toNat, by omega⟩
  have hk : k < ns.length := by omega
  exact ⟨ns[k], List.getElem_mem hk, atI_nat (by rw [List.getElem?_map, List.getElem?_eq_getElem hk]; rfl), by rw [Int.toNat_natCast]; exact List.getElem?_eq_getElem hk⟩
theorem atI_end {xs : List A} {x : A} : atI (xs ++ [x]) (-1) = some x := by
  unfold atI ixN
  rw [if_neg (by decide), if_pos (by rw [List.length_append, List.length_singleton]; omega), List.length_append, List.length_singleton]
  show (xs ++ [x])[(-1 + ((xs.length + 1 : Nat) : Int)).toNat]? = _
  have : (-1 + ((xs.length + 1 : Nat) : Int)).toNat = xs.length := by omega
  rw [this]
  simp

/-! ### data of any kind, as it stands in a store -/
def asc (x : Str) : Bool := x.cps.all (· < 128)
def gs (s : Nat) : A → Prop
  | .non => True
  | .bl _ => True
  | .int i => i.natAbs < 2 ^ (100 + 8 * s)
  | .str x => asc x = true ∧ x.length ≤ 64 * 4 ^ s
  | _ => False
/-- data of depth k at most; s tells how great it may be; the bag is no part of it -/
def gd (st : Sto) (E : Nat → Prop) (s : Nat) : Nat → A → Prop
  | 0, a => gs s a
  | k + 1, a => gs s a ∨ (∃ xs, a = .tup xs ∧ xs.length ≤ 70 + s ∧ ∀ x ∈ xs, gd st E s k x) ∨ ∃ n xs, a = .ref n ∧ ¬ E n ∧ st[n]? = some (.lst xs) ∧ xs.length ≤ 70 + s ∧ ∀ x ∈ xs, gd st E s k x
theorem gs_up {s : Nat} {a : A} (h : gs s a) : gs (s + 1) a := by
  cases a with
  | non => trivial
  | bl _ => trivial
  | int i => exact Nat.lt_of_lt_of_le (show i.natAbs < _ from h) (Nat.pow_le_pow_right (by decide) (by omega))
  | str x => exact ⟨h.1, Nat.le_trans h.2 (by rw [Nat.pow_succ]; omega)⟩
  | _ => exact h
theorem gd_up {st : Sto} {E : Nat → Prop} {s : Nat} : ∀ {k : Nat} {a : A}, gd st E s k a → gd st E (s + 1) k a
  | 0, _, h => gs_up h
  | k + 1, _, h => by
    rcases h with h | ⟨xs, e, h1, h2⟩ | ⟨n, xs, e, h0, h1, h2, h3⟩
    · exact .inl (gs_up h)
    · exact .inr (.inl ⟨xs, e, by omega, fun x hx => gd_up (h2 x hx)⟩)
    · exact .inr (.inr ⟨n, xs, e, h0, h1, by omega, fun x hx => gd_up (h3 x hx)⟩)
theorem gd_ups {st : Sto} {E : Nat → Prop} {s : Nat} {k : Nat} {a : A} (h : gd st E s k a) : ∀ {s' : Nat}, s ≤ s' → gd st E s' k a
  | s', hs => by
    obtain ⟨d, rfl⟩ := Nat.exists_eq_add_of_le hs
    clear hs
    induction d with
    | zero => exact h
    | succ d ih => exact gd_up ih
theorem gd_s {st : Sto} {E : Nat → Prop} {s : Nat} : ∀ {k : Nat} {a : A}, gs s a → gd st E s k a
  | 0, _, h => h
  | _ + 1, _, h => .inl h
theorem gd_deep {st : Sto} {E : Nat → Prop} {s : Nat} : ∀ {k : Nat} {a : A}, gd st E s k a → gd st E s (k + 1) a
  | 0, _, h => .inl h
  | k + 1, _, h => by
    rcases h with h | ⟨xs, e, h1, h2⟩ | ⟨n, xs, e, h0, h1, h2, h3⟩
    · exact .inl h
    · exact .inr (.inl ⟨xs, e, h1, fun x hx => gd_deep (h2 x hx)⟩)
    · exact .inr (.inr ⟨n, xs, e, h0, h1, h2, fun x hx => gd_deep (h3 x hx)⟩)
theorem gd_deeps {st : Sto} {E : Nat → Prop} {s : Nat} {k : Nat} {a : A} (h : gd st E s k a) : ∀ {k' : Nat}, k ≤ k' → gd st E s k' a
  | k', hs => by
    obtain ⟨d, rfl⟩ := Nat.exists_eq_add_of_le hs
    clear hs
    induction d with
    | zero => exact h
    | succ d ih => exact gd_deep ih
theorem gd_old {st st' : Sto} {b : Nat} {E : Nat → Prop} {s : Nat} (hE : E b) (o : Old b st st') : ∀ {k : Nat} {a : A}, gd st E s k a → gd st' E s k a
  | 0, _, h => h
  | k + 1, _, h => by
    rcases h with h | ⟨xs, e, h1, h2⟩ | ⟨n, xs, e, h0, h1, h2, h3⟩
    · exact .inl h
    · exact .inr (.inl ⟨xs, e, h1, fun x hx => gd_old hE o (h2 x hx)⟩)
    · exact .inr (.inr ⟨n, xs, e, h0, o.get h1 (fun z => h0 (z ▸ hE)), h2, fun x hx => gd_old hE o (h3 x hx)⟩)
/-- its kind -/
theorem gd_ty {st : Sto} {E : Nat → Prop} {s k : Nat} {a : A} (h : gd st E s k a) : ∃ t, tyA st a = some t := by
  have one : gs s a → ∃ t, tyA st a = some t := fun h => by
    cases a with
    | non => exact ⟨_, rfl⟩
    | bl _ => exact ⟨_, rfl⟩
    | int _ => exact ⟨_, rfl⟩
    | str _ => exact ⟨_, rfl⟩
    | _ => exact h.elim
  cases k with
  | zero => exact one h
  | succ k =>
    rcases h with h | ⟨xs, rfl, h1, h2⟩ | ⟨n, xs, rfl, h0, h1, h2, h3⟩
    · exact one h
    · exact ⟨_, rfl⟩
    · exact ⟨"list", by simp only [tyA, h1]⟩
/-! texts of signs below 128 -/
theorem asc_mem {x : Str} : asc x = true ↔ ∀ c ∈ x.cps.toList, c < 128 := by
  unfold asc
  rw [Array.all_eq_true_iff_forall_mem]
  simp
theorem asc_app {x y : Str} (hx : asc x = true) (hy : asc y = true) : asc (x ++ y) = true := by
  rw [asc_mem] at hx hy ⊢
  intro c hc
  have : (x ++ y).cps = x.cps ++ y.cps := rfl
  rw [this, Array.toList_append, List.mem_append] at hc
  rcases hc with hc | hc
  · exact hx c hc
  · exact hy c hc
theorem len_app (x y : Str) : (x ++ y).length = x.length + y.length := by
  show (x.cps ++ y.cps).size = _
  rw [Array.size_append]
  rfl
theorem upper_one : ∀ c < 128, ∀ d ∈ Unicode.upperOf c, d < 128 := by decide +kernel
theorem asc_upper {x : Str} (hx : asc x = true) : asc (Txt.upper x) = true := by
  rw [asc_mem] at hx ⊢
  intro c hc
  have hc : c ∈ placed x fun _ c => Unicode.upperOf c := by
    rw [← Array.mem_toList_iff]
    exact hc
  unfold placed at hc
  rw [Array.mem_flatten] at hc
  obtain ⟨ys, h1, h2⟩ := hc
  rw [Array.mem_mapIdx] at h1
  obtain ⟨i, hi, rfl⟩ := h1
  exact upper_one _ (hx x.cps[i] (by simp)) _ (by simpa using h2)
theorem gs_word {s : Nat} {x : Str} (h : asc x = true) (h2 : x.length ≤ 64) : gs s (.str x) := ⟨h, Nat.le_trans h2 (Nat.le_mul_of_pos_right 64 (Nat.pow_pos (by decide)))⟩
theorem gs_num {s : Nat} {i : Int} (h : i.natAbs < 2 ^ 100) : gs s (.int i) := Nat.lt_of_lt_of_le h (Nat.pow_le_pow_right (by decide) (by omega))
theorem gd_tup {st : Sto} {E : Nat → Prop} {s k : Nat} {xs : List A} (h : xs.length ≤ 70 + s) (h2 : ∀ x ∈ xs, gd st E s k x) : gd st E s (k + 1) (.tup xs) := .inr (.inl ⟨xs, rfl, h, h2⟩)
theorem gd_ref {st : Sto} {E : Nat → Prop} {s k n : Nat} {xs : List A} (nb : ¬ E n) (e : st[n]? = some (.lst xs)) (h : xs.length ≤ 70 + s) (h2 : ∀ x ∈ xs, gd st E s k x) : gd st E s (k + 1) (.ref n) := .inr (.inr ⟨n, xs, rfl, nb, e, h, h2⟩)
theorem at_pick {xs : List A} {i : Int} (h0 : 0 ≤ i) (h1 : i < xs.length) : ∃ a, atI xs i = some a ∧ a ∈ xs ∧ xs[i.toNat]? = some a := by
  obtain ⟨k, rfl⟩ : ∃ k : Nat, i = (k : Int) := ⟨i.toNat, by omega⟩
  have hk : k < xs.length := by omega
  exact ⟨xs[k], atI_nat (List.getElem?_eq_getElem hk), List.getElem_mem hk, by rw [Int.toNat_natCast]; exact List.getElem?_eq_getElem hk⟩

/-! ### a thing with one part spoilt -/
theorem cutA_to (xs : List A) {i : Int} (h0 : 0 ≤ i) : cutA xs none (some i) = xs.take i.toNat := by
  obtain ⟨k, rfl⟩ : ∃ k : Nat, i = (k : Int) := ⟨i.toNat, by omega⟩
  unfold cutA
  rw [HT.sIx_none, HT.sIx_nat]
  have e3 : ((k : Nat) : Int).toNat = k := by omega
  rw [e3, Nat.sub_zero]
  show (xs.drop 0).take (min k xs.length) = xs.take k
  rw [List.drop_zero]
  by_cases h : k ≤ xs.length
  · rw [Nat.min_eq_left h]
  · rw [Nat.min_eq_right (by omega), List.take_of_length_le (Nat.le_refl _), List.take_of_length_le (by omega)]
theorem cutA_from (xs : List A) {i : Int} (h0 : 0 ≤ i) : cutA xs (some i) none = xs.drop i.toNat := by
  obtain ⟨k, rfl⟩ : ∃ k : Nat, i = (k : Int) := ⟨i.toNat, by omega⟩
  unfold cutA
  rw [HT.sIx_none, HT.sIx_nat]
  have e3 : ((k : Nat) : Int).toNat = k := by omega
  rw [e3]
  by_cases h : k ≤ xs.length
  · rw [Nat.min_eq_left h]
    exact List.take_of_length_le (by rw [List.length_drop]; exact Nat.le_refl _)
  · rw [Nat.min_eq_right (by omega), List.drop_of_length_le (Nat.le_refl _), List.drop_of_length_le (by omega), List.take_nil]
theorem mem_erase1 {xs : List A} {k : Nat} {x : A} (h : x ∈ xs.take k ++ xs.drop (k + 1)) : x ∈ xs := by
  rcases List.mem_append.mp h with h | h
  · exact List.mem_of_mem_take h
  · exact List.mem_of_mem_drop h
theorem mem_twice {xs : List A} {k : Nat} {x : A} (h : x ∈ xs.take (k + 1) ++ xs.drop k) : x ∈ xs := by
  rcases List.mem_append.mp h with h | h
  · exact List.mem_of_mem_take h
  · exact List.mem_of_mem_drop h
theorem ixN_is {n : Nat} {i : Int} (h0 : 0 ≤ i) (h1 : i < n) : ixN n i = some i.toNat := by
  unfold ixN
  rw [if_pos h0, if_pos h1]
theorem pow_len {s n : Nat} (hs : s ≤ 12) (h : n ≤ 64 * 4 ^ s) : n ≤ 16777216 * 64 := by
  have : 4 ^ s ≤ 4 ^ 12 := Nat.pow_le_pow_right (by decide) hs
  have e : 4 ^ 12 = 16777216 := by decide
  omega
theorem log_small {i : Int} {k : Nat} (h : i.natAbs < 2 ^ k) (hk : 0 < k) : i.natAbs.log2 < k := by
  by_cases h0 : i.natAbs = 0
  · rw [h0]
    exact hk
  · exact (Nat.log2_lt h0).mpr h
theorem asc_num (i : Int) : asc (toString i : String) = true := by
  rw [asc_mem, Str.ofString_eq_toList]
  intro c hc
  have hc : c ∈ (toString i).toList.map Char.toNat := by simpa using hc
  obtain ⟨ch, hch, rfl⟩ := List.mem_map.mp hc
  have dig : ∀ (n : Nat) (ch : Char), ch ∈ (Nat.repr n).toList → ch.toNat < 128 := fun n ch h => by
    have h : ch ∈ Nat.toDigits 10 n := by
      unfold Nat.repr at h
      simpa using h
    have := Nat.isDigit_of_mem_toDigits (by decide) (by decide) h
    simp [Char.isDigit] at this
    have h2 := this.2
    have : ch.toNat ≤ 57 := h2
    omega
  cases i with
  | ofNat n => exact dig n ch hch
  | negSucc n =>
    have hch : ch ∈ ("-" ++ Nat.repr (n + 1)).toList := hch
    rw [String.toList_append, List.mem_append] at hch
    rcases hch with h | h
    · have : ch = '-' := by simpa using h
      rw [this]
      decide
    · exact dig _ ch h
theorem asc_cut {x : Str} (hx : asc x = true) (lo hi : Option Int) : asc (cutS x lo hi) = true := by
  rw [asc_mem] at hx ⊢
  intro c hc
  unfold cutS at hc
  exact hx c (List.mem_of_mem_drop (List.mem_of_mem_take (by simpa using hc)))
theorem len_cut (x : Str) (lo hi : Option Int) : (cutS x lo hi).length ≤ x.length := by
  unfold cutS
  show ((x.cps.toList.drop _).take _).toArray.size ≤ x.cps.size
  rw [List.size_toArray, List.length_take, List.length_drop]
  have : x.cps.toList.length = x.cps.size := by simp
  omega

/-! ### mirrors: loops and comprehensions, in general -/
theorem forL_ret {ok : Sto → Prop} {g : MG} {b : MS} {st : Sto} (p : A → Bool) (Sh : AEnv → Prop) (hok : ∀ l, ok (st ++ l)) : ∀ {xs : List A}, (∀ x ∈ xs, ∀ env l, Sh env → ∃ e1 l' e2, g x env = some e1 ∧ Sh e2 ∧ b e1 (st ++ l) = (if p x = true then .fl (.nx e2) (st ++ l') else .fl (.rt (.bl false)) (st ++ l'))) →
    ∀ env l, Sh env → ∃ e2 l', Sh e2 ∧ forL ok g b xs env (st ++ l) = if xs.all p = true then .fl (.nx e2) (st ++ l') else .fl (.rt (.bl false)) (st ++ l')
  | [], _, env, l, h => ⟨env, l, h, by
      unfold forL
      rw [if_pos (hok l)]
      rfl⟩
  | x :: xs, hb, env, l, h => by
    obtain ⟨e1, l1, e2, h1, h2, h3⟩ := hb x List.mem_cons_self env l h
    unfold forL
    rw [if_pos (hok l), h1]
    simp only [h3]
    cases hp : p x with
    | false =>
      refine ⟨e2, l1, h2, ?_⟩
      simp only [List.all_cons, hp, Bool.false_and, Bool.false_eq_true, if_false]
    | true =>
      obtain ⟨e3, l3, h4, h5⟩ := forL_ret p Sh hok (fun y hy => hb y (List.mem_cons_of_mem _ hy)) e2 l1 h2
      refine ⟨e3, l3, h4, ?_⟩
      simp only [List.all_cons, hp, Bool.true_and, if_true, h5]
theorem lc_pure {n : Nat} {ok : Sto → Prop} {g : MG} {tt : MT} {te : ME} {env : AEnv} {s : Sto} (p : A → Bool) (F : A → A) (hn : n = s.length) (hok : ∀ acc, ok (s ++ [.lst acc])) : ∀ {xs acc : List A},
    (∀ x ∈ xs, ∀ acc, ∃ e1, g x env = some e1 ∧ tt e1 (s ++ [.lst acc]) = .ok (p x) (s ++ [.lst acc]) ∧ (p x = true → te e1 (s ++ [.lst acc]) = .ok (F x) (s ++ [.lst acc]))) →
    acc.length + xs.length < 16777216 → lcL n ok g tt te env xs (s ++ [.lst acc]) = .ok (.ref n) (s ++ [.lst (acc ++ (xs.filter p).map F)])
  | [], acc, _, _ => by
    unfold lcL
    rw [if_pos (hok acc)]
    simp
  | x :: xs, acc, h, hl => by
    obtain ⟨e1, h1, h2, h3⟩ := h x List.mem_cons_self acc
    unfold lcL
    rw [if_pos (hok acc), h1]
    simp only [h2, ev_xok, ev_bok]
    rw [List.length_cons] at hl
    cases hp : p x with
    | false =>
      simp only [Bool.false_eq_true, if_false, List.filter_cons, hp]
      exact lc_pure p F hn hok (fun y hy => h y (List.mem_cons_of_mem _ hy)) (by omega)
    | true =>
      have hg : (s ++ [AO.lst acc])[n]? = some (.lst acc) := by rw [hn]; exact ev_last
      have hs : (s ++ [AO.lst acc]).set n (.lst (acc ++ [F x])) = s ++ [.lst (acc ++ [F x])] := by rw [hn]; exact ev_set0
      simp only [if_true, h3 hp, ev_xok, ev_bok, hg, List.filter_cons, hp, List.map_cons]
      rw [if_pos (by rw [sizeLine_eq]; omega), hs, lc_pure p F hn hok (fun y hy => h y (List.mem_cons_of_mem _ hy)) (by rw [List.length_append, List.length_singleton]; omega)]
      simp
theorem asc_ok {x : Str} (h : asc x = true) : PyData.strOk x = true := by
  unfold asc at h
  unfold PyData.strOk
  rw [Array.all_eq_true_iff_forall_mem] at h ⊢
  intro c hc
  have := h c hc
  simp at this ⊢
  omega
theorem allD_some {f : A → Option PyData} {P : PyData → Prop} : ∀ {xs : List A}, (∀ x ∈ xs, ∃ D, f x = some D ∧ P D) → ∃ Ds, allD f xs = some Ds ∧ ∀ D ∈ Ds, P D
  | [], _ => ⟨[], rfl, (fun D h => by cases h)⟩
  | x :: xs, h => by
    obtain ⟨D, e, hp⟩ := h x List.mem_cons_self
    obtain ⟨Ds, e2, hps⟩ := allD_some fun y hy => h y (List.mem_cons_of_mem _ hy)
    refine ⟨D :: Ds, by simp only [allD, e, e2], fun E hE => ?_⟩
    rcases List.mem_cons.mp hE with rfl | hE
    · exact hp
    · exact hps E hE
theorem layA {d : Nat} : ∀ {Ds : List PyData}, (∀ D ∈ Ds, D.canLay0 = true ∧ D.depth ≤ d) → PyData.canLayAll0 Ds = true ∧ PyData.depthAll Ds ≤ d
  | [], _ => ⟨by simp [PyData.canLayAll0], by simp [PyData.depthAll]⟩
  | D :: Ds, h => by
    have h1 := h D List.mem_cons_self
    have h2 := layA fun E hE => h E (List.mem_cons_of_mem _ hE)
    exact ⟨by rw [PyData.canLayAll0, h1.1, h2.1]; rfl, by rw [PyData.depthAll]; exact Nat.max_le.mpr ⟨h1.2, h2.2⟩⟩
theorem gs_dat {st : Sto} {s n : Nat} {a : A} (h : gs s a) : ∃ D, dat st n a = some D ∧ D.canLay0 = true ∧ D.depth ≤ 0 := by
  cases a with
  | non => exact ⟨.none, by cases n <;> rfl, rfl, Nat.le_refl _⟩
  | bl c => exact ⟨.bool c, by cases n <;> rfl, rfl, Nat.le_refl _⟩
  | int c => exact ⟨.int c, by cases n <;> rfl, rfl, Nat.le_refl _⟩
  | str c => exact ⟨.str c, by cases n <;> rfl, by rw [PyData.canLay0]; exact asc_ok h.1, Nat.le_refl _⟩
  | _ => exact h.elim
theorem gd_dat {st : Sto} {E : Nat → Prop} {s : Nat} : ∀ (d n : Nat) {a : A}, d ≤ n → gd st E s d a → ∃ D, dat st n a = some D ∧ D.canLay0 = true ∧ D.depth ≤ d
  | 0, n, _, _, h => gs_dat h
  | d + 1, 0, _, hn, _ => by omega
  | d + 1, n + 1, a, hn, h => by
    rcases h with h | ⟨xs, rfl, h1, h2⟩ | ⟨m, xs, rfl, h0, h1, h2, h3⟩
    · obtain ⟨D, e, l, dp⟩ := gs_dat (st := st) (n := n + 1) h
      exact ⟨D, e, l, by omega⟩
    · obtain ⟨Ds, e, hD⟩ := allD_some (f := dat st n) (P := fun D => D.canLay0 = true ∧ D.depth ≤ d) fun x hx => gd_dat d n (by omega) (h2 x hx)
      obtain ⟨l1, l2⟩ := layA hD
      exact ⟨.tuple Ds, by simp only [dat, e, Option.map_some], by rw [PyData.canLay0]; exact l1, by rw [PyData.depth]; omega⟩
    · obtain ⟨Ds, e, hD⟩ := allD_some (f := dat st n) (P := fun D => D.canLay0 = true ∧ D.depth ≤ d) fun x hx => gd_dat d n (by omega) (h3 x hx)
      obtain ⟨l1, l2⟩ := layA hD
      exact ⟨.list Ds, by simp only [dat, h1, e, Option.map_some], by rw [PyData.canLay0]; exact l1, by rw [PyData.depth]; omega⟩
theorem shaped_of {D : PyData} (h : D.canLay0 = true) (h2 : D.depth ≤ 64) : SeqAt.shaped D = true := by
  unfold SeqAt.shaped
  rw [h, decide_eq_true h2]
  rfl
/-- a thing in a tuple of words: it is one of them -/
def inW (ws : List Str) : A → Bool
  | .str x => ws.any (· == x)
  | _ => false
theorem notIn_words {st : Sto} {E : Nat → Prop} {s d : Nat} {a : A} {ws : List Str} (hw : ∀ x ∈ ws, asc x = true) (hd : d ≤ 30) (h : gd st E s d a) : oNotInX a (.tup (ws.map A.str)) st = .ok (.bl (!inW ws a)) st := by
  have flat : flatA a = true → oNotInX a (.tup (ws.map A.str)) st = .ok (.bl (!inW ws a)) st := fun hf => by
    have t1 : tupDeep a (.tup (ws.map A.str)) = false := by simp [tupDeep, isTup, hf]
    have t2 : (ws.map A.str).all flatA = true := by
      rw [List.all_eq_true]
      intro x hx
      obtain ⟨y, _, rfl⟩ := List.mem_map.mp hx
      rfl
    have t3 : (ws.map A.str).any (fun y => eqF y a) = inW ws a := by
      rw [List.any_map]
      cases a with
      | str x => rfl
      | non => exact List.any_eq_false.mpr fun _ _ => by simp [eqF]
      | bl c => exact List.any_eq_false.mpr fun _ _ => by simp [eqF]
      | int c => exact List.any_eq_false.mpr fun _ _ => by simp [eqF]
      | _ => cases hf
    show oOr tupDeep oNotInTD oNotIn a (.tup (ws.map A.str)) st = _
    unfold oOr
    rw [t1]
    show (if false = true then _ else oNotInF a (.tup (ws.map A.str)) st) = _
    rw [if_neg Bool.false_ne_true]
    unfold oNotInF inA
    show lift ((if flatA a = true ∧ (ws.map A.str).all flatA = true then some ((ws.map A.str).any fun y => eqF y a) else none).map fun c => A.bl (!c)) st = _
    rw [if_pos ⟨hf, t2⟩, t3]
    rfl
  have deepc : flatA a = false → inW ws a = false → (∃ D, dat st deep a = some D ∧ SeqAt.shaped D = true ∧ ∀ x : Str, PyData.eqv (.str x) D = false) → oNotInX a (.tup (ws.map A.str)) st = .ok (.bl (!inW ws a)) st := fun hf hi ⟨D, e, sh, ne⟩ => by
    have t1 : tupDeep a (.tup (ws.map A.str)) = true := by simp [tupDeep, isTup, hf]
    have e2 : dat st deep (.tup (ws.map A.str)) = some (.tuple (ws.map PyData.str)) := by
      show (allD (dat st 29) (ws.map A.str)).map PyData.tuple = _
      have : ∀ l : List Str, allD (dat st 29) (l.map A.str) = some (l.map PyData.str) := fun l => by
        induction l with
        | nil => rfl
        | cons x l ih => simp only [List.map_cons, allD, ih, dat]
      rw [this]
      rfl
    have sh2 : SeqAt.shaped (.tuple (ws.map PyData.str)) = true := by
      have := layA (d := 0) (Ds := ws.map PyData.str) fun D hD => by
        obtain ⟨x, hx, rfl⟩ := List.mem_map.mp hD
        exact ⟨by rw [PyData.canLay0]; exact asc_ok (hw x hx), Nat.le_refl _⟩
      exact shaped_of (by rw [PyData.canLay0]; exact this.1) (by rw [PyData.depth]; omega)
    have an : ((ws.map PyData.str).any fun z => PyData.eqv z D) = false := by
      rw [List.any_map]
      exact List.any_eq_false.mpr fun x _ => by simp [ne x]
    show oOr tupDeep oNotInTD oNotIn a (.tup (ws.map A.str)) st = _
    unfold oOr
    rw [t1, if_pos rfl]
    unfold oNotInTD inTD
    rw [e, e2]
    simp only [sh, sh2, and_self, if_true, an, hi]
    rfl
  cases d with
  | zero =>
    refine flat ?_
    cases a with
    | non => rfl
    | bl _ => rfl
    | int _ => rfl
    | str _ => rfl
    | _ => exact h.elim
  | succ d =>
    rcases id h with h' | ⟨xs, rfl, h1, h2⟩ | ⟨m, xs, rfl, h0, h1, h2, h3⟩
    · refine flat ?_
      cases a with
      | non => rfl
      | bl _ => rfl
      | int _ => rfl
      | str _ => rfl
      | _ => exact h'.elim
    · obtain ⟨D, e, l, dp⟩ := gd_dat (d + 1) 30 hd h
      refine deepc rfl rfl ⟨D, e, shaped_of l (by omega), fun x => ?_⟩
      have e : (allD (dat st 29) xs).map PyData.tuple = some D := e
      obtain ⟨Ds, _, rfl⟩ := Option.map_eq_some_iff.mp e
      simp [PyData.eqv]
    · obtain ⟨D, e, l, dp⟩ := gd_dat (d + 1) 30 hd h
      refine deepc rfl rfl ⟨D, e, shaped_of l (by omega), fun x => ?_⟩
      simp only [dat, h1] at e
      obtain ⟨Ds, _, rfl⟩ := Option.map_eq_some_iff.mp e
      simp [PyData.eqv]

theorem popAt_is {xs : List A} {i : Int} {a : A} (h0 : 0 ≤ i) (h1 : i < xs.length) (h2 : (xs.length : Int) < 2 ^ 62) (e : xs[i.toNat]? = some a) : oPopAt xs [.int i] = some (a, xs.eraseIdx i.toNat) := by
  unfold oPopAt
  have hs : seqIndex? i xs.length = some i.toNat := by
    have := (ixN_seq (ixN_is h0 h1)).1
    exact this
  simp only
  rw [if_pos ⟨by omega, by omega⟩, hs]
  simp only [e]
  rfl
theorem negOne {xs : List A} : mUn oNegX (mC (.int 1)) [] [] = .ok (.int (-1)) [] := rfl

/-! ### names drawn -/
def nmF (x : Str) : Key × A := (.inr x, .bl true)
theorem put_nm {xs : List Str} {x : Str} : putA (xs.map nmF) (.inr x) (.bl true) = (if x ∈ xs then xs else xs ++ [x]).map nmF := by
  unfold putA
  have ha : ((xs.map nmF).any fun kv => decide (kv.1 = (.inr x : Key))) = decide (x ∈ xs) := by
    rw [List.any_map, Bool.eq_iff_iff, List.any_eq_true, decide_eq_true_eq]
    constructor
    · rintro ⟨y, hy, e⟩
      have e : (Sum.inr y : Key) = .inr x := of_decide_eq_true e
      cases e
      exact hy
    · exact fun h => ⟨x, h, decide_eq_true rfl⟩
  rw [ha]
  by_cases h : x ∈ xs
  · rw [if_pos (decide_eq_true h), if_pos h, List.map_map]
    refine List.map_congr_left fun y _ => ?_
    show (if (Sum.inr y : Key) = .inr x then ((Sum.inr y : Key), A.bl true) else nmF y) = nmF y
    split <;> rfl
  · rw [if_neg (by simpa using h), if_neg h, List.map_append]
    rfl
theorem val_nm {x : Str} : ∀ {xs : List Str}, valA (xs.map nmF) (.inr x) = if x ∈ xs then some (.bl true) else none
  | [] => rfl
  | y :: xs => by
    by_cases h : y = x
    · subst h
      rw [if_pos List.mem_cons_self]
      simp [valA, nmF, List.find?_cons]
    · have e : valA ((y :: xs).map nmF) (.inr x) = valA (xs.map nmF) (.inr x) := by
        simp [valA, nmF, List.find?_cons, h]
      rw [e, val_nm]
      have : (x ∈ y :: xs) = (x ∈ xs) := by
        rw [List.mem_cons]
        exact propext ⟨fun z => z.resolve_left fun q => h q.symm, .inr⟩
      simp only [this]
theorem drop_nm {x : Str} {xs : List Str} : dropA (xs.map nmF) (.inr x) = (xs.filter fun y => decide (y ≠ x)).map nmF := by
  unfold dropA
  rw [List.filter_map]
  congr 1
  refine List.filter_congr fun y _ => ?_
  show decide ((Sum.inr y : Key) ≠ .inr x) = decide (y ≠ x)
  simp
theorem keyS_nm : ∀ xs : List Str, keyS (xs.map nmF) = some xs
  | [] => rfl
  | x :: xs => by
    show (keyS (xs.map nmF)).map (x :: ·) = _
    rw [keyS_nm xs]
    rfl
theorem names_loop {S : Sto} {b D n : Nat} {many : Int} {z3 : Option A} (hB : BagAt S b) (hD : S[D]? = some (.dK [])) (hb : b < D) (hn : n ≤ 1000) : ∃ (xs : List Str) (z : Option A) (S' : Sto), forL okT (mgName 3) lb__law_names_1 (rngA 0 n) [some (.ref b), some (.int many), some (.ref D), z3] S = .fl (.nx [some (.ref b), some (.int many), some (.ref D), z]) S' ∧ S'[D]? = some (.dK (xs.map nmF)) ∧ xs.Nodup ∧ xs.length ≤ n ∧ (∀ x ∈ xs, nameP x) ∧ BagAt S' b ∧ S.length ≤ S'.length ∧ ∀ k, k < S.length → k ≠ b → k ≠ D → S'[k]? = S[k]? := by
  obtain ⟨e2, S', e, xs, z, rfl, h1, h2, h3, h4, h5, h6, h7⟩ := forL_inv (ok := okT) (g := mgName 3) (b := lb__law_names_1) (xs := rngA 0 n) (j := 0) (fun i env T => ∃ (xs : List Str) (z : Option A), env = [some (.ref b), some (.int many), some (.ref D), z] ∧ T[D]? = some (.dK (xs.map nmF)) ∧ xs.Nodup ∧ xs.length ≤ i ∧ (∀ x ∈ xs, nameP x) ∧ BagAt T b ∧ S.length ≤ T.length ∧ ∀ k, k < S.length → k ≠ b → k ≠ D → T[k]? = S[k]?) (fun _ _ _ _ => trivial) (fun i a ha env T hI => by
    obtain ⟨xs, z, rfl, h1, h2, h3, h4, h5, h6, h7⟩ := hI
    have hi : i < n := by
      have := (List.getElem?_eq_some_iff.mp ha).1
      rw [rngL] at this
      exact this
    obtain ⟨x, T1, e1, hx, o1, B1⟩ := name_ev h5
    have g1 := o1.get h1 (by omega)
    have hl1 := (List.getElem?_eq_some_iff.mp g1).1
    have le := o1.le
    have pn := put_nm (xs := xs) (x := x)
    have hlen : (xs.map nmF).length < 16777216 := by rw [List.length_map]; omega
    refine ⟨_, _, T1.set D (.dK ((if x ∈ xs then xs else xs ++ [x]).map nmF)), rfl, ?_, if x ∈ xs then xs else xs ++ [x], some a, rfl, List.getElem?_set_self hl1, ?_, ?_, ?_, B1.put _ (by omega), by rw [List.length_set]; omega, fun k hk kb kD => ?_⟩
    · unfold lb__law_names_1
      simp only [ev_bok, ev_bno, ev_bex, ev_tok, ev_tno, ev_tex, ev_nnx, ev_nrt, ev_nbk, ev_nct, ev_nex, ev_nno, ev_frt, ev_fnx, ev_fex, ev_xok, ev_lsome, ev_lnone, ev_seq, ev_if, ev_ret, ev_retN, ev_drop, ev_nop, ev_brk, ev_cont, ev_asgN, ev_asgT, ev_asgO, ev_mgTup, ev_mgN, ev_mgC, ev_mg0, ev_putL, ev_putO, ev_var, ev_vr, ev_c, ev_op, ev_un, ev_test, ev_tb, ev_notT, ev_andT, ev_orT, ev_ifE, ev_not, ev_nb, ev_and, ev_andK, ev_or, ev_orK, ev_chain, ev_chK, ev_nil, ev_cons, ev_tup, ev_lst, ev_new, ev_call, ev_cb, ev_size, ev_addI, ev_addS, ev_addT, ev_addL, ev_catO, ev_sub, ev_mul, ev_div, ev_mod, ev_p5, ev_p6, ev_p12, ev_p18, ev_p30, ev_neg, ev_ltI, ev_ltS, ev_leI, ev_leS, ev_gt, ev_ge, ev_eqI, ev_eqS, ev_neI, ev_neS, ev_neB, ev_eqB, ev_is, ev_isnot, ev_ixT, ev_ixS, ev_ixR, ev_ixL, ev_ixK, ev_getL, ev_getM, ev_gL, ev_gM, ev_at0, ev_at1, ev_at2, ev_at3, ev_at4, ev_lenS, ev_lenR, ev_lenT, ev_lenL, ev_lenO, ev_lenD, ev_abs, ev_min2, ev_max2, ev_intI, ev_intB, ev_set, ev_fc, ev_setset, ev_last, ev_appk, ev_app0, ev_setk, ev_set0, ev_assoc, ev_lapp, ev_lappA, ev_sl, ev_nopart, ev_part, ev_ptK, ev_slT, ev_slS, ev_slR, ev_slK, ev_tyN, ev_tyB, ev_tyI, ev_tyS, ev_tyT, ev_tyL, ev_tyR, ev_tyRL, ev_isi, ev_isi1, ev_isi2, ev_isi3, ev_isi4, ev_isi5, ev_isiT, ev_isi2K, ev_isTy, ev_list, ev_listK, ev_tuple, ev_tupK, ev_getST, ev_getSR, ev_getSL, ev_all, ev_allK, ev_eqXI, ev_eqXS, ev_neXI, ev_neXS, ev_neXB, ev_eqXB, ev_eqXR, ev_neXR, ev_nil2, ev_eqK, ev_neK, ev_meth, ev_meth0, ev_mth1, ev_mth2, ev_mth3, ev_append, ev_m0, ev_m0K, ev_str, ev_for, ev_miR1, ev_rg1K, ev_miL, ev_liK, ev_miT, ev_tiK, ev_lc, ev_wipe0, ev_wipeS, ev_yes, ev_lenSet, ev_lenSetK, ev_listR, ev_lrK, ev_put2, ev_p2A, ev_p2K, ev_p2E, ev_put1, ev_pt1, ev_addXI, ev_addXB, ev_addXS, ev_addXT, ev_addXL, ev_subXI, ev_subXB, ev_mulXI, ev_mulXB, ev_mulXL, ev_negXI, ev_negXB, ev_strXI, ev_strXB, ev_mulYI, ev_mulYB, ev_mulYL, ev_mulYT, ev_dnew, ev_dnewT, ev_dgetE, ev_getD, ev_gD, ev_keyI, ev_keyS, ev_dgK, ev_dinE, ev_diK, ev_dputE, ev_dpK, ev_dget2E, ev_isDA, ev_isSome, ev_isNone, ev_dg2K, ev_dpop2E, ev_dp2K, ev_dp3S, ev_dp3N, ev_sortedE, ev_srO1, ev_srO2, ev_gLd, ev_srKS, ev_srKI, ev_gDT, ev_gT, ev_tinE, ev_tiKK, ev_keysA, ev_keysN, ev_keysC, ev_dputTE, ev_dptK, ev_dispE, ev_mpN, ev_mpC, ev_pcK, ev_dsK, ev_dsK2, ev_lc2E, ev_imp, ev_simp, ev_split, ev_splF, ev_splG, ev_fmt, ev_fmtS, ev_fmtI, ev_addK, ev_js0, ev_js1, ev_joined, ev_star, ev_starK, ev_each2, ev_each2K, ev_unl, ev_unlK, ev_intS, ev_strYS, ev_strYI, List.getElem?_cons_zero, List.getElem?_cons_succ, List.set_cons_zero, List.set_cons_succ, List.length_cons, List.length_nil, List.cons_append, List.nil_append, if_true, if_false, Bool.false_eq_true, Bool.true_eq_false, reduceIte, Bool.not_true, Bool.not_false, Bool.and_true, Bool.true_and, Bool.and_false, Bool.false_and, Bool.or_true, Bool.true_or, Bool.or_false, Bool.false_or, decide_eq_true_eq, Nat.reduceAdd, Nat.reduceLeDiff, Nat.zero_add, Int.reduceLT, Int.reduceLE, Int.reduceEq, Int.reduceNeg, Nat.reduceEqDiff, and_self, and_true, true_and, decide_true, decide_false, eq_self, ite_true, ite_false, Int.reduceSub, Int.reduceAdd, Int.cast_ofNat_Int, Int.natCast_add, Int.cast_ofNat_Int, Nat.reduceSub, Nat.add_assoc, String.reduceBEq, String.reduceEq, Bool.or_not_self, beq_self_eq_true, e1, g1, hlen, pn]
    · split
      · exact h2
      · rename_i hm
        exact List.nodup_append.mpr ⟨h2, by simp, fun y hy z hz q => hm (by rw [← List.mem_singleton.mp hz, ← q]; exact hy)⟩
    · split
      · omega
      · rw [List.length_append, List.length_singleton]
        omega
    · intro y hy
      split at hy
      · exact h4 y hy
      · rcases List.mem_append.mp hy with hy | hy
        · exact h4 y hy
        · rw [List.mem_singleton.mp hy]
          exact hx
    · rw [List.getElem?_set_ne (Ne.symm kD), o1.eq k (by omega) kb]
      exact h7 k hk kb kD) _ S ⟨[], z3, rfl, hD, .nil, Nat.le_refl _, by simp, hB, Nat.le_refl _, fun _ _ _ _ => rfl⟩
  rw [Nat.zero_add, rngL] at h3
  exact ⟨xs, z, S', e, h1, h2, h3, h4, h5, h6, h7⟩

theorem lt_of_leS {x y : Str} (h : leS x y = true) (ne : x ≠ y) : x.cps.toList < y.cps.toList := by
  by_cases g : x.cps.toList < y.cps.toList
  · exact g
  · exact absurd (leS_anti h (leS_iff.mpr g)) ne
theorem sortS_mem {xs : List Str} {x : Str} : x ∈ sortS xs ↔ x ∈ xs := (List.mergeSort_perm xs leS).mem_iff
theorem sortS_len {xs : List Str} : (sortS xs).length = xs.length := (List.mergeSort_perm xs leS).length_eq
theorem sortS_lt {xs : List Str} (h : xs.Nodup) : (sortS xs).Pairwise fun x y => x.cps.toList < y.cps.toList := by
  have h1 : (sortS xs).Pairwise (fun x y => leS x y = true) := List.pairwise_mergeSort leS_trans leS_total xs
  have h2 : (sortS xs).Pairwise (· ≠ ·) := (List.mergeSort_perm xs leS).nodup_iff.mpr h
  exact (h1.and h2).imp fun z => lt_of_leS z.1 z.2
theorem nameP_a : nameP "a" := ⟨by decide +kernel, by decide +kernel, by decide +kernel⟩
theorem names_ev {st : Sto} {b : Nat} {many : Int} (hB : BagAt st b) (h0 : 0 ≤ many) (h1 : many ≤ 20) : ∃ n ss st', m__law_names [.ref b, .int many] st = .ok (.ref n) st' ∧ st'[n]? = some (.lst (ss.map A.str)) ∧ ss ≠ [] ∧ (ss.length ≤ many.toNat ∨ ss.length ≤ 1) ∧ (∀ x ∈ ss, nameP x ∧ x ≠ "server") ∧ ss.Pairwise (fun x y => x.cps.toList < y.cps.toList) ∧ st.length ≤ n ∧ Old b st st' ∧ BagAt st' b := by
  have hb := hB.lt
  obtain ⟨xs, z, S1, e1, g1, nd, hl, hn, B1, le1, keep⟩ := names_loop (S := st ++ [.dK []]) (D := st.length) (n := many.toNat) (many := many) (z3 := none) (hB.app _) (List.getElem?_concat_length ..) hb (by omega)
  rw [List.length_append, List.length_singleton] at le1
  have hl1 := (List.getElem?_eq_some_iff.mp g1).1
  have O1 : Old b st S1 := ⟨by omega, fun k hk kb => by
    rw [keep k (by rw [List.length_append]; omega) kb (by omega), List.getElem?_append_left hk]⟩
  have c1 : (-(2 ^ 62) ≤ many ∧ many < 2 ^ 62) = True := eq_true ⟨by omega, by omega⟩
  obtain ⟨ys, hys⟩ : ∃ ys, ys = xs.filter fun y => decide (y ≠ ("server" : Str)) := ⟨_, rfl⟩
  have ylen : ys.length ≤ many.toNat := by rw [hys]; exact Nat.le_trans (List.length_filter_le ..) hl
  have ynd : ys.Nodup := by rw [hys]; exact nd.filter _
  have yn : ∀ x ∈ ys, nameP x ∧ x ≠ "server" := fun x hx => by
    rw [hys] at hx
    obtain ⟨h1, h2⟩ := List.mem_filter.mp hx
    exact ⟨hn x h1, of_decide_eq_true h2⟩
  obtain ⟨S2, O2, B2, g2, ep⟩ : ∃ S2, Old b st S2 ∧ BagAt S2 b ∧ S2[st.length]? = some (.dK (ys.map nmF)) ∧ sDrop (mDPop2 (mVar 2) (mC (.str "server")) (mC .non)) [some (.ref b), some (.int many), some (.ref st.length), z] S1 = .fl (.nx [some (.ref b), some (.int many), some (.ref st.length), z]) S2 := by
    by_cases hm : ("server" : Str) ∈ xs
    · refine ⟨S1.set st.length (.dK (ys.map nmF)), O1.putNew (Nat.le_refl _), B1.put _ (by omega), List.getElem?_set_self hl1, ?_⟩
      have v : valA (xs.map nmF) (.inr "server") = some (.bl true) := by rw [val_nm, if_pos hm]
      have d : dropA (xs.map nmF) (.inr "server") = ys.map nmF := by rw [drop_nm, hys]
      simp only [ev_bok, ev_bno, ev_bex, ev_tok, ev_tno, ev_tex, ev_nnx, ev_nrt, ev_nbk, ev_nct, ev_nex, ev_nno, ev_frt, ev_fnx, ev_fex, ev_xok, ev_lsome, ev_lnone, ev_seq, ev_if, ev_ret, ev_retN, ev_drop, ev_nop, ev_brk, ev_cont, ev_asgN, ev_asgT, ev_asgO, ev_mgTup, ev_mgN, ev_mgC, ev_mg0, ev_putL, ev_putO, ev_var, ev_vr, ev_c, ev_op, ev_un, ev_test, ev_tb, ev_notT, ev_andT, ev_orT, ev_ifE, ev_not, ev_nb, ev_and, ev_andK, ev_or, ev_orK, ev_chain, ev_chK, ev_nil, ev_cons, ev_tup, ev_lst, ev_new, ev_call, ev_cb, ev_size, ev_addI, ev_addS, ev_addT, ev_addL, ev_catO, ev_sub, ev_mul, ev_div, ev_mod, ev_p5, ev_p6, ev_p12, ev_p18, ev_p30, ev_neg, ev_ltI, ev_ltS, ev_leI, ev_leS, ev_gt, ev_ge, ev_eqI, ev_eqS, ev_neI, ev_neS, ev_neB, ev_eqB, ev_is, ev_isnot, ev_ixT, ev_ixS, ev_ixR, ev_ixL, ev_ixK, ev_getL, ev_getM, ev_gL, ev_gM, ev_at0, ev_at1, ev_at2, ev_at3, ev_at4, ev_lenS, ev_lenR, ev_lenT, ev_lenL, ev_lenO, ev_lenD, ev_abs, ev_min2, ev_max2, ev_intI, ev_intB, ev_set, ev_fc, ev_setset, ev_last, ev_appk, ev_app0, ev_setk, ev_set0, ev_assoc, ev_lapp, ev_lappA, ev_sl, ev_nopart, ev_part, ev_ptK, ev_slT, ev_slS, ev_slR, ev_slK, ev_tyN, ev_tyB, ev_tyI, ev_tyS, ev_tyT, ev_tyL, ev_tyR, ev_tyRL, ev_isi, ev_isi1, ev_isi2, ev_isi3, ev_isi4, ev_isi5, ev_isiT, ev_isi2K, ev_isTy, ev_list, ev_listK, ev_tuple, ev_tupK, ev_getST, ev_getSR, ev_getSL, ev_all, ev_allK, ev_eqXI, ev_eqXS, ev_neXI, ev_neXS, ev_neXB, ev_eqXB, ev_eqXR, ev_neXR, ev_nil2, ev_eqK, ev_neK, ev_meth, ev_meth0, ev_mth1, ev_mth2, ev_mth3, ev_append, ev_m0, ev_m0K, ev_str, ev_for, ev_miR1, ev_rg1K, ev_miL, ev_liK, ev_miT, ev_tiK, ev_lc, ev_wipe0, ev_wipeS, ev_yes, ev_lenSet, ev_lenSetK, ev_listR, ev_lrK, ev_put2, ev_p2A, ev_p2K, ev_p2E, ev_put1, ev_pt1, ev_addXI, ev_addXB, ev_addXS, ev_addXT, ev_addXL, ev_subXI, ev_subXB, ev_mulXI, ev_mulXB, ev_mulXL, ev_negXI, ev_negXB, ev_strXI, ev_strXB, ev_mulYI, ev_mulYB, ev_mulYL, ev_mulYT, ev_dnew, ev_dnewT, ev_dgetE, ev_getD, ev_gD, ev_keyI, ev_keyS, ev_dgK, ev_dinE, ev_diK, ev_dputE, ev_dpK, ev_dget2E, ev_isDA, ev_isSome, ev_isNone, ev_dg2K, ev_dpop2E, ev_dp2K, ev_dp3S, ev_dp3N, ev_sortedE, ev_srO1, ev_srO2, ev_gLd, ev_srKS, ev_srKI, ev_gDT, ev_gT, ev_tinE, ev_tiKK, ev_keysA, ev_keysN, ev_keysC, ev_dputTE, ev_dptK, ev_dispE, ev_mpN, ev_mpC, ev_pcK, ev_dsK, ev_dsK2, ev_lc2E, ev_imp, ev_simp, ev_split, ev_splF, ev_splG, ev_fmt, ev_fmtS, ev_fmtI, ev_addK, ev_js0, ev_js1, ev_joined, ev_star, ev_starK, ev_each2, ev_each2K, ev_unl, ev_unlK, ev_intS, ev_strYS, ev_strYI, List.getElem?_cons_zero, List.getElem?_cons_succ, List.set_cons_zero, List.set_cons_succ, List.length_cons, List.length_nil, List.cons_append, List.nil_append, if_true, if_false, Bool.false_eq_true, Bool.true_eq_false, reduceIte, Bool.not_true, Bool.not_false, Bool.and_true, Bool.true_and, Bool.and_false, Bool.false_and, Bool.or_true, Bool.true_or, Bool.or_false, Bool.false_or, decide_eq_true_eq, Nat.reduceAdd, Nat.reduceLeDiff, Nat.zero_add, Int.reduceLT, Int.reduceLE, Int.reduceEq, Int.reduceNeg, Nat.reduceEqDiff, and_self, and_true, true_and, decide_true, decide_false, eq_self, ite_true, ite_false, Int.reduceSub, Int.reduceAdd, Int.cast_ofNat_Int, Int.natCast_add, Int.cast_ofNat_Int, Nat.reduceSub, Nat.add_assoc, String.reduceBEq, String.reduceEq, Bool.or_not_self, beq_self_eq_true, g1, v, d]
    · have ey : ys = xs := by
        rw [hys]
        exact List.filter_eq_self.mpr fun x hx => decide_eq_true fun q => hm (q ▸ hx)
      refine ⟨S1, O1, B1, by rw [ey]; exact g1, ?_⟩
      have v : valA (xs.map nmF) (.inr "server") = none := by rw [val_nm, if_neg hm]
      simp only [ev_bok, ev_bno, ev_bex, ev_tok, ev_tno, ev_tex, ev_nnx, ev_nrt, ev_nbk, ev_nct, ev_nex, ev_nno, ev_frt, ev_fnx, ev_fex, ev_xok, ev_lsome, ev_lnone, ev_seq, ev_if, ev_ret, ev_retN, ev_drop, ev_nop, ev_brk, ev_cont, ev_asgN, ev_asgT, ev_asgO, ev_mgTup, ev_mgN, ev_mgC, ev_mg0, ev_putL, ev_putO, ev_var, ev_vr, ev_c, ev_op, ev_un, ev_test, ev_tb, ev_notT, ev_andT, ev_orT, ev_ifE, ev_not, ev_nb, ev_and, ev_andK, ev_or, ev_orK, ev_chain, ev_chK, ev_nil, ev_cons, ev_tup, ev_lst, ev_new, ev_call, ev_cb, ev_size, ev_addI, ev_addS, ev_addT, ev_addL, ev_catO, ev_sub, ev_mul, ev_div, ev_mod, ev_p5, ev_p6, ev_p12, ev_p18, ev_p30, ev_neg, ev_ltI, ev_ltS, ev_leI, ev_leS, ev_gt, ev_ge, ev_eqI, ev_eqS, ev_neI, ev_neS, ev_neB, ev_eqB, ev_is, ev_isnot, ev_ixT, ev_ixS, ev_ixR, ev_ixL, ev_ixK, ev_getL, ev_getM, ev_gL, ev_gM, ev_at0, ev_at1, ev_at2, ev_at3, ev_at4, ev_lenS, ev_lenR, ev_lenT, ev_lenL, ev_lenO, ev_lenD, ev_abs, ev_min2, ev_max2, ev_intI, ev_intB, ev_set, ev_fc, ev_setset, ev_last, ev_appk, ev_app0, ev_setk, ev_set0, ev_assoc, ev_lapp, ev_lappA, ev_sl, ev_nopart, ev_part, ev_ptK, ev_slT, ev_slS, ev_slR, ev_slK, ev_tyN, ev_tyB, ev_tyI, ev_tyS, ev_tyT, ev_tyL, ev_tyR, ev_tyRL, ev_isi, ev_isi1, ev_isi2, ev_isi3, ev_isi4, ev_isi5, ev_isiT, ev_isi2K, ev_isTy, ev_list, ev_listK, ev_tuple, ev_tupK, ev_getST, ev_getSR, ev_getSL, ev_all, ev_allK, ev_eqXI, ev_eqXS, ev_neXI, ev_neXS, ev_neXB, ev_eqXB, ev_eqXR, ev_neXR, ev_nil2, ev_eqK, ev_neK, ev_meth, ev_meth0, ev_mth1, ev_mth2, ev_mth3, ev_append, ev_m0, ev_m0K, ev_str, ev_for, ev_miR1, ev_rg1K, ev_miL, ev_liK, ev_miT, ev_tiK, ev_lc, ev_wipe0, ev_wipeS, ev_yes, ev_lenSet, ev_lenSetK, ev_listR, ev_lrK, ev_put2, ev_p2A, ev_p2K, ev_p2E, ev_put1, ev_pt1, ev_addXI, ev_addXB, ev_addXS, ev_addXT, ev_addXL, ev_subXI, ev_subXB, ev_mulXI, ev_mulXB, ev_mulXL, ev_negXI, ev_negXB, ev_strXI, ev_strXB, ev_mulYI, ev_mulYB, ev_mulYL, ev_mulYT, ev_dnew, ev_dnewT, ev_dgetE, ev_getD, ev_gD, ev_keyI, ev_keyS, ev_dgK, ev_dinE, ev_diK, ev_dputE, ev_dpK, ev_dget2E, ev_isDA, ev_isSome, ev_isNone, ev_dg2K, ev_dpop2E, ev_dp2K, ev_dp3S, ev_dp3N, ev_sortedE, ev_srO1, ev_srO2, ev_gLd, ev_srKS, ev_srKI, ev_gDT, ev_gT, ev_tinE, ev_tiKK, ev_keysA, ev_keysN, ev_keysC, ev_dputTE, ev_dptK, ev_dispE, ev_mpN, ev_mpC, ev_pcK, ev_dsK, ev_dsK2, ev_lc2E, ev_imp, ev_simp, ev_split, ev_splF, ev_splG, ev_fmt, ev_fmtS, ev_fmtI, ev_addK, ev_js0, ev_js1, ev_joined, ev_star, ev_starK, ev_each2, ev_each2K, ev_unl, ev_unlK, ev_intS, ev_strYS, ev_strYI, List.getElem?_cons_zero, List.getElem?_cons_succ, List.set_cons_zero, List.set_cons_succ, List.length_cons, List.length_nil, List.cons_append, List.nil_append, if_true, if_false, Bool.false_eq_true, Bool.true_eq_false, reduceIte, Bool.not_true, Bool.not_false, Bool.and_true, Bool.true_and, Bool.and_false, Bool.false_and, Bool.or_true, Bool.true_or, Bool.or_false, Bool.false_or, decide_eq_true_eq, Nat.reduceAdd, Nat.reduceLeDiff, Nat.zero_add, Int.reduceLT, Int.reduceLE, Int.reduceEq, Int.reduceNeg, Nat.reduceEqDiff, and_self, and_true, true_and, decide_true, decide_false, eq_self, ite_true, ite_false, Int.reduceSub, Int.reduceAdd, Int.cast_ofNat_Int, Int.natCast_add, Int.cast_ofNat_Int, Nat.reduceSub, Nat.add_assoc, String.reduceBEq, String.reduceEq, Bool.or_not_self, beq_self_eq_true, g1, v]
  have le2 := O2.le
  by_cases hz : ys = []
  · refine ⟨S2.length, ["a"], S2 ++ [.lst [.str "a"]], ?_, List.getElem?_concat_length .., by simp, .inr (Nat.le_refl _), fun x hx => ?_, List.pairwise_singleton .., le2, O2.trans (Old.app _ _ _), B2.app _⟩
    · rw [st__law_names]
      unfold b__law_names
      simp only [ev_bok, ev_bno, ev_bex, ev_tok, ev_tno, ev_tex, ev_nnx, ev_nrt, ev_nbk, ev_nct, ev_nex, ev_nno, ev_frt, ev_fnx, ev_fex, ev_xok, ev_lsome, ev_lnone, ev_seq, ev_if, ev_ret, ev_retN, ev_drop, ev_nop, ev_brk, ev_cont, ev_asgN, ev_asgT, ev_asgO, ev_mgTup, ev_mgN, ev_mgC, ev_mg0, ev_putL, ev_putO, ev_var, ev_vr, ev_c, ev_op, ev_un, ev_test, ev_tb, ev_notT, ev_andT, ev_orT, ev_ifE, ev_not, ev_nb, ev_and, ev_andK, ev_or, ev_orK, ev_chain, ev_chK, ev_nil, ev_cons, ev_tup, ev_lst, ev_new, ev_call, ev_cb, ev_size, ev_addI, ev_addS, ev_addT, ev_addL, ev_catO, ev_sub, ev_mul, ev_div, ev_mod, ev_p5, ev_p6, ev_p12, ev_p18, ev_p30, ev_neg, ev_ltI, ev_ltS, ev_leI, ev_leS, ev_gt, ev_ge, ev_eqI, ev_eqS, ev_neI, ev_neS, ev_neB, ev_eqB, ev_is, ev_isnot, ev_ixT, ev_ixS, ev_ixR, ev_ixL, ev_ixK, ev_getL, ev_getM, ev_gL, ev_gM, ev_at0, ev_at1, ev_at2, ev_at3, ev_at4, ev_lenS, ev_lenR, ev_lenT, ev_lenL, ev_lenO, ev_lenD, ev_abs, ev_min2, ev_max2, ev_intI, ev_intB, ev_set, ev_fc, ev_setset, ev_last, ev_appk, ev_app0, ev_setk, ev_set0, ev_assoc, ev_lapp, ev_lappA, ev_sl, ev_nopart, ev_part, ev_ptK, ev_slT, ev_slS, ev_slR, ev_slK, ev_tyN, ev_tyB, ev_tyI, ev_tyS, ev_tyT, ev_tyL, ev_tyR, ev_tyRL, ev_isi, ev_isi1, ev_isi2, ev_isi3, ev_isi4, ev_isi5, ev_isiT, ev_isi2K, ev_isTy, ev_list, ev_listK, ev_tuple, ev_tupK, ev_getST, ev_getSR, ev_getSL, ev_all, ev_allK, ev_eqXI, ev_eqXS, ev_neXI, ev_neXS, ev_neXB, ev_eqXB, ev_eqXR, ev_neXR, ev_nil2, ev_eqK, ev_neK, ev_meth, ev_meth0, ev_mth1, ev_mth2, ev_mth3, ev_append, ev_m0, ev_m0K, ev_str, ev_for, ev_miR1, ev_rg1K, ev_miL, ev_liK, ev_miT, ev_tiK, ev_lc, ev_wipe0, ev_wipeS, ev_yes, ev_lenSet, ev_lenSetK, ev_listR, ev_lrK, ev_put2, ev_p2A, ev_p2K, ev_p2E, ev_put1, ev_pt1, ev_addXI, ev_addXB, ev_addXS, ev_addXT, ev_addXL, ev_subXI, ev_subXB, ev_mulXI, ev_mulXB, ev_mulXL, ev_negXI, ev_negXB, ev_strXI, ev_strXB, ev_mulYI, ev_mulYB, ev_mulYL, ev_mulYT, ev_dnew, ev_dnewT, ev_dgetE, ev_getD, ev_gD, ev_keyI, ev_keyS, ev_dgK, ev_dinE, ev_diK, ev_dputE, ev_dpK, ev_dget2E, ev_isDA, ev_isSome, ev_isNone, ev_dg2K, ev_dpop2E, ev_dp2K, ev_dp3S, ev_dp3N, ev_sortedE, ev_srO1, ev_srO2, ev_gLd, ev_srKS, ev_srKI, ev_gDT, ev_gT, ev_tinE, ev_tiKK, ev_keysA, ev_keysN, ev_keysC, ev_dputTE, ev_dptK, ev_dispE, ev_mpN, ev_mpC, ev_pcK, ev_dsK, ev_dsK2, ev_lc2E, ev_imp, ev_simp, ev_split, ev_splF, ev_splG, ev_fmt, ev_fmtS, ev_fmtI, ev_addK, ev_js0, ev_js1, ev_joined, ev_star, ev_starK, ev_each2, ev_each2K, ev_unl, ev_unlK, ev_intS, ev_strYS, ev_strYI, List.getElem?_cons_zero, List.getElem?_cons_succ, List.set_cons_zero, List.set_cons_succ, List.length_cons, List.length_nil, List.cons_append, List.nil_append, if_true, if_false, Bool.false_eq_true, Bool.true_eq_false, reduceIte, Bool.not_true, Bool.not_false, Bool.and_true, Bool.true_and, Bool.and_false, Bool.false_and, Bool.or_true, Bool.true_or, Bool.or_false, Bool.false_or, decide_eq_true_eq, Nat.reduceAdd, Nat.reduceLeDiff, Nat.zero_add, Int.reduceLT, Int.reduceLE, Int.reduceEq, Int.reduceNeg, Nat.reduceEqDiff, and_self, and_true, true_and, decide_true, decide_false, eq_self, ite_true, ite_false, Int.reduceSub, Int.reduceAdd, Int.cast_ofNat_Int, Int.natCast_add, Int.cast_ofNat_Int, Nat.reduceSub, Nat.add_assoc, String.reduceBEq, String.reduceEq, Bool.or_not_self, beq_self_eq_true, c1]
      rw [e1]
      simp only [ev_nnx, ev_seq]
      rw [ep]
      rw [hz] at g2
      simp only [ev_bok, ev_bno, ev_bex, ev_tok, ev_tno, ev_tex, ev_nnx, ev_nrt, ev_nbk, ev_nct, ev_nex, ev_nno, ev_frt, ev_fnx, ev_fex, ev_xok, ev_lsome, ev_lnone, ev_seq, ev_if, ev_ret, ev_retN, ev_drop, ev_nop, ev_brk, ev_cont, ev_asgN, ev_asgT, ev_asgO, ev_mgTup, ev_mgN, ev_mgC, ev_mg0, ev_putL, ev_putO, ev_var, ev_vr, ev_c, ev_op, ev_un, ev_test, ev_tb, ev_notT, ev_andT, ev_orT, ev_ifE, ev_not, ev_nb, ev_and, ev_andK, ev_or, ev_orK, ev_chain, ev_chK, ev_nil, ev_cons, ev_tup, ev_lst, ev_new, ev_call, ev_cb, ev_size, ev_addI, ev_addS, ev_addT, ev_addL, ev_catO, ev_sub, ev_mul, ev_div, ev_mod, ev_p5, ev_p6, ev_p12, ev_p18, ev_p30, ev_neg, ev_ltI, ev_ltS, ev_leI, ev_leS, ev_gt, ev_ge, ev_eqI, ev_eqS, ev_neI, ev_neS, ev_neB, ev_eqB, ev_is, ev_isnot, ev_ixT, ev_ixS, ev_ixR, ev_ixL, ev_ixK, ev_getL, ev_getM, ev_gL, ev_gM, ev_at0, ev_at1, ev_at2, ev_at3, ev_at4, ev_lenS, ev_lenR, ev_lenT, ev_lenL, ev_lenO, ev_lenD, ev_abs, ev_min2, ev_max2, ev_intI, ev_intB, ev_set, ev_fc, ev_setset, ev_last, ev_appk, ev_app0, ev_setk, ev_set0, ev_assoc, ev_lapp, ev_lappA, ev_sl, ev_nopart, ev_part, ev_ptK, ev_slT, ev_slS, ev_slR, ev_slK, ev_tyN, ev_tyB, ev_tyI, ev_tyS, ev_tyT, ev_tyL, ev_tyR, ev_tyRL, ev_isi, ev_isi1, ev_isi2, ev_isi3, ev_isi4, ev_isi5, ev_isiT, ev_isi2K, ev_isTy, ev_list, ev_listK, ev_tuple, ev_tupK, ev_getST, ev_getSR, ev_getSL, ev_all, ev_allK, ev_eqXI, ev_eqXS, ev_neXI, ev_neXS, ev_neXB, ev_eqXB, ev_eqXR, ev_neXR, ev_nil2, ev_eqK, ev_neK, ev_meth, ev_meth0, ev_mth1, ev_mth2, ev_mth3, ev_append, ev_m0, ev_m0K, ev_str, ev_for, ev_miR1, ev_rg1K, ev_miL, ev_liK, ev_miT, ev_tiK, ev_lc, ev_wipe0, ev_wipeS, ev_yes, ev_lenSet, ev_lenSetK, ev_listR, ev_lrK, ev_put2, ev_p2A, ev_p2K, ev_p2E, ev_put1, ev_pt1, ev_addXI, ev_addXB, ev_addXS, ev_addXT, ev_addXL, ev_subXI, ev_subXB, ev_mulXI, ev_mulXB, ev_mulXL, ev_negXI, ev_negXB, ev_strXI, ev_strXB, ev_mulYI, ev_mulYB, ev_mulYL, ev_mulYT, ev_dnew, ev_dnewT, ev_dgetE, ev_getD, ev_gD, ev_keyI, ev_keyS, ev_dgK, ev_dinE, ev_diK, ev_dputE, ev_dpK, ev_dget2E, ev_isDA, ev_isSome, ev_isNone, ev_dg2K, ev_dpop2E, ev_dp2K, ev_dp3S, ev_dp3N, ev_sortedE, ev_srO1, ev_srO2, ev_gLd, ev_srKS, ev_srKI, ev_gDT, ev_gT, ev_tinE, ev_tiKK, ev_keysA, ev_keysN, ev_keysC, ev_dputTE, ev_dptK, ev_dispE, ev_mpN, ev_mpC, ev_pcK, ev_dsK, ev_dsK2, ev_lc2E, ev_imp, ev_simp, ev_split, ev_splF, ev_splG, ev_fmt, ev_fmtS, ev_fmtI, ev_addK, ev_js0, ev_js1, ev_joined, ev_star, ev_starK, ev_each2, ev_each2K, ev_unl, ev_unlK, ev_intS, ev_strYS, ev_strYI, List.getElem?_cons_zero, List.getElem?_cons_succ, List.set_cons_zero, List.set_cons_succ, List.length_cons, List.length_nil, List.cons_append, List.nil_append, if_true, if_false, Bool.false_eq_true, Bool.true_eq_false, reduceIte, Bool.not_true, Bool.not_false, Bool.and_true, Bool.true_and, Bool.and_false, Bool.false_and, Bool.or_true, Bool.true_or, Bool.or_false, Bool.false_or, decide_eq_true_eq, Nat.reduceAdd, Nat.reduceLeDiff, Nat.zero_add, Int.reduceLT, Int.reduceLE, Int.reduceEq, Int.reduceNeg, Nat.reduceEqDiff, and_self, and_true, true_and, decide_true, decide_false, eq_self, ite_true, ite_false, Int.reduceSub, Int.reduceAdd, Int.cast_ofNat_Int, Int.natCast_add, Int.cast_ofNat_Int, Nat.reduceSub, Nat.add_assoc, String.reduceBEq, String.reduceEq, Bool.or_not_self, beq_self_eq_true, g2, List.map_nil]
    · rw [List.mem_singleton.mp hx]
      exact ⟨nameP_a, by decide +kernel⟩
  · have yl : ¬ ((ys.map nmF).length : Int) = 0 := by
      rw [List.length_map]
      have := List.length_pos_iff.mpr hz
      omega
    have k64 : (ys.length < 64) = True := eq_true (by omega)
    refine ⟨S2.length, sortS ys, S2 ++ [.lst ((sortS ys).map A.str)], ?_, List.getElem?_concat_length .., fun q => hz (List.length_eq_zero_iff.mp (by rw [← sortS_len, q]; rfl)), .inl (by rw [sortS_len]; exact ylen), fun x hx => yn x (sortS_mem.mp hx), sortS_lt ynd, le2, O2.trans (Old.app _ _ _), B2.app _⟩
    rw [st__law_names]
    unfold b__law_names
    simp only [ev_bok, ev_bno, ev_bex, ev_tok, ev_tno, ev_tex, ev_nnx, ev_nrt, ev_nbk, ev_nct, ev_nex, ev_nno, ev_frt, ev_fnx, ev_fex, ev_xok, ev_lsome, ev_lnone, ev_seq, ev_if, ev_ret, ev_retN, ev_drop, ev_nop, ev_brk, ev_cont, ev_asgN, ev_asgT, ev_asgO, ev_mgTup, ev_mgN, ev_mgC, ev_mg0, ev_putL, ev_putO, ev_var, ev_vr, ev_c, ev_op, ev_un, ev_test, ev_tb, ev_notT, ev_andT, ev_orT, ev_ifE, ev_not, ev_nb, ev_and, ev_andK, ev_or, ev_orK, ev_chain, ev_chK, ev_nil, ev_cons, ev_tup, ev_lst, ev_new, ev_call, ev_cb, ev_size, ev_addI, ev_addS, ev_addT, ev_addL, ev_catO, ev_sub, ev_mul, ev_div, ev_mod, ev_p5, ev_p6, ev_p12, ev_p18, ev_p30, ev_neg, ev_ltI, ev_ltS, ev_leI, ev_leS, ev_gt, ev_ge, ev_eqI, ev_eqS, ev_neI, ev_neS, ev_neB, ev_eqB, ev_is, ev_isnot, ev_ixT, ev_ixS, ev_ixR, ev_ixL, ev_ixK, ev_getL, ev_getM, ev_gL, ev_gM, ev_at0, ev_at1, ev_at2, ev_at3, ev_at4, ev_lenS, ev_lenR, ev_lenT, ev_lenL, ev_lenO, ev_lenD, ev_abs, ev_min2, ev_max2, ev_intI, ev_intB, ev_set, ev_fc, ev_setset, ev_last, ev_appk, ev_app0, ev_setk, ev_set0, ev_assoc, ev_lapp, ev_lappA, ev_sl, ev_nopart, ev_part, ev_ptK, ev_slT, ev_slS, ev_slR, ev_slK, ev_tyN, ev_tyB, ev_tyI, ev_tyS, ev_tyT, ev_tyL, ev_tyR, ev_tyRL, ev_isi, ev_isi1, ev_isi2, ev_isi3, ev_isi4, ev_isi5, ev_isiT, ev_isi2K, ev_isTy, ev_list, ev_listK, ev_tuple, ev_tupK, ev_getST, ev_getSR, ev_getSL, ev_all, ev_allK, ev_eqXI, ev_eqXS, ev_neXI, ev_neXS, ev_neXB, ev_eqXB, ev_eqXR, ev_neXR, ev_nil2, ev_eqK, ev_neK, ev_meth, ev_meth0, ev_mth1, ev_mth2, ev_mth3, ev_append, ev_m0, ev_m0K, ev_str, ev_for, ev_miR1, ev_rg1K, ev_miL, ev_liK, ev_miT, ev_tiK, ev_lc, ev_wipe0, ev_wipeS, ev_yes, ev_lenSet, ev_lenSetK, ev_listR, ev_lrK, ev_put2, ev_p2A, ev_p2K, ev_p2E, ev_put1, ev_pt1, ev_addXI, ev_addXB, ev_addXS, ev_addXT, ev_addXL, ev_subXI, ev_subXB, ev_mulXI, ev_mulXB, ev_mulXL, ev_negXI, ev_negXB, ev_strXI, ev_strXB, ev_mulYI, ev_mulYB, ev_mulYL, ev_mulYT, ev_dnew, ev_dnewT, ev_dgetE, ev_getD, ev_gD, ev_keyI, ev_keyS, ev_dgK, ev_dinE, ev_diK, ev_dputE, ev_dpK, ev_dget2E, ev_isDA, ev_isSome, ev_isNone, ev_dg2K, ev_dpop2E, ev_dp2K, ev_dp3S, ev_dp3N, ev_sortedE, ev_srO1, ev_srO2, ev_gLd, ev_srKS, ev_srKI, ev_gDT, ev_gT, ev_tinE, ev_tiKK, ev_keysA, ev_keysN, ev_keysC, ev_dputTE, ev_dptK, ev_dispE, ev_mpN, ev_mpC, ev_pcK, ev_dsK, ev_dsK2, ev_lc2E, ev_imp, ev_simp, ev_split, ev_splF, ev_splG, ev_fmt, ev_fmtS, ev_fmtI, ev_addK, ev_js0, ev_js1, ev_joined, ev_star, ev_starK, ev_each2, ev_each2K, ev_unl, ev_unlK, ev_intS, ev_strYS, ev_strYI, List.getElem?_cons_zero, List.getElem?_cons_succ, List.set_cons_zero, List.set_cons_succ, List.length_cons, List.length_nil, List.cons_append, List.nil_append, if_true, if_false, Bool.false_eq_true, Bool.true_eq_false, reduceIte, Bool.not_true, Bool.not_false, Bool.and_true, Bool.true_and, Bool.and_false, Bool.false_and, Bool.or_true, Bool.true_or, Bool.or_false, Bool.false_or, decide_eq_true_eq, Nat.reduceAdd, Nat.reduceLeDiff, Nat.zero_add, Int.reduceLT, Int.reduceLE, Int.reduceEq, Int.reduceNeg, Nat.reduceEqDiff, and_self, and_true, true_and, decide_true, decide_false, eq_self, ite_true, ite_false, Int.reduceSub, Int.reduceAdd, Int.cast_ofNat_Int, Int.natCast_add, Int.cast_ofNat_Int, Nat.reduceSub, Nat.add_assoc, String.reduceBEq, String.reduceEq, Bool.or_not_self, beq_self_eq_true, c1]
    rw [e1]
    simp only [ev_nnx, ev_seq]
    rw [ep]
    simp only [ev_bok, ev_bno, ev_bex, ev_tok, ev_tno, ev_tex, ev_nnx, ev_nrt, ev_nbk, ev_nct, ev_nex, ev_nno, ev_frt, ev_fnx, ev_fex, ev_xok, ev_lsome, ev_lnone, ev_seq, ev_if, ev_ret, ev_retN, ev_drop, ev_nop, ev_brk, ev_cont, ev_asgN, ev_asgT, ev_asgO, ev_mgTup, ev_mgN, ev_mgC, ev_mg0, ev_putL, ev_putO, ev_var, ev_vr, ev_c, ev_op, ev_un, ev_test, ev_tb, ev_notT, ev_andT, ev_orT, ev_ifE, ev_not, ev_nb, ev_and, ev_andK, ev_or, ev_orK, ev_chain, ev_chK, ev_nil, ev_cons, ev_tup, ev_lst, ev_new, ev_call, ev_cb, ev_size, ev_addI, ev_addS, ev_addT, ev_addL, ev_catO, ev_sub, ev_mul, ev_div, ev_mod, ev_p5, ev_p6, ev_p12, ev_p18, ev_p30, ev_neg, ev_ltI, ev_ltS, ev_leI, ev_leS, ev_gt, ev_ge, ev_eqI, ev_eqS, ev_neI, ev_neS, ev_neB, ev_eqB, ev_is, ev_isnot, ev_ixT, ev_ixS, ev_ixR, ev_ixL, ev_ixK, ev_getL, ev_getM, ev_gL, ev_gM, ev_at0, ev_at1, ev_at2, ev_at3, ev_at4, ev_lenS, ev_lenR, ev_lenT, ev_lenL, ev_lenO, ev_lenD, ev_abs, ev_min2, ev_max2, ev_intI, ev_intB, ev_set, ev_fc, ev_setset, ev_last, ev_appk, ev_app0, ev_setk, ev_set0, ev_assoc, ev_lapp, ev_lappA, ev_sl, ev_nopart, ev_part, ev_ptK, ev_slT, ev_slS, ev_slR, ev_slK, ev_tyN, ev_tyB, ev_tyI, ev_tyS, ev_tyT, ev_tyL, ev_tyR, ev_tyRL, ev_isi, ev_isi1, ev_isi2, ev_isi3, ev_isi4, ev_isi5, ev_isiT, ev_isi2K, ev_isTy, ev_list, ev_listK, ev_tuple, ev_tupK, ev_getST, ev_getSR, ev_getSL, ev_all, ev_allK, ev_eqXI, ev_eqXS, ev_neXI, ev_neXS, ev_neXB, ev_eqXB, ev_eqXR, ev_neXR, ev_nil2, ev_eqK, ev_neK, ev_meth, ev_meth0, ev_mth1, ev_mth2, ev_mth3, ev_append, ev_m0, ev_m0K, ev_str, ev_for, ev_miR1, ev_rg1K, ev_miL, ev_liK, ev_miT, ev_tiK, ev_lc, ev_wipe0, ev_wipeS, ev_yes, ev_lenSet, ev_lenSetK, ev_listR, ev_lrK, ev_put2, ev_p2A, ev_p2K, ev_p2E, ev_put1, ev_pt1, ev_addXI, ev_addXB, ev_addXS, ev_addXT, ev_addXL, ev_subXI, ev_subXB, ev_mulXI, ev_mulXB, ev_mulXL, ev_negXI, ev_negXB, ev_strXI, ev_strXB, ev_mulYI, ev_mulYB, ev_mulYL, ev_mulYT, ev_dnew, ev_dnewT, ev_dgetE, ev_getD, ev_gD, ev_keyI, ev_keyS, ev_dgK, ev_dinE, ev_diK, ev_dputE, ev_dpK, ev_dget2E, ev_isDA, ev_isSome, ev_isNone, ev_dg2K, ev_dpop2E, ev_dp2K, ev_dp3S, ev_dp3N, ev_sortedE, ev_srO1, ev_srO2, ev_gLd, ev_srKS, ev_srKI, ev_gDT, ev_gT, ev_tinE, ev_tiKK, ev_keysA, ev_keysN, ev_keysC, ev_dputTE, ev_dptK, ev_dispE, ev_mpN, ev_mpC, ev_pcK, ev_dsK, ev_dsK2, ev_lc2E, ev_imp, ev_simp, ev_split, ev_splF, ev_splG, ev_fmt, ev_fmtS, ev_fmtI, ev_addK, ev_js0, ev_js1, ev_joined, ev_star, ev_starK, ev_each2, ev_each2K, ev_unl, ev_unlK, ev_intS, ev_strYS, ev_strYI, List.getElem?_cons_zero, List.getElem?_cons_succ, List.set_cons_zero, List.set_cons_succ, List.length_cons, List.length_nil, List.cons_append, List.nil_append, if_true, if_false, Bool.false_eq_true, Bool.true_eq_false, reduceIte, Bool.not_true, Bool.not_false, Bool.and_true, Bool.true_and, Bool.and_false, Bool.false_and, Bool.or_true, Bool.true_or, Bool.or_false, Bool.false_or, decide_eq_true_eq, Nat.reduceAdd, Nat.reduceLeDiff, Nat.zero_add, Int.reduceLT, Int.reduceLE, Int.reduceEq, Int.reduceNeg, Nat.reduceEqDiff, and_self, and_true, true_and, decide_true, decide_false, eq_self, ite_true, ite_false, Int.reduceSub, Int.reduceAdd, Int.cast_ofNat_Int, Int.natCast_add, Int.cast_ofNat_Int, Nat.reduceSub, Nat.add_assoc, String.reduceBEq, String.reduceEq, Bool.or_not_self, beq_self_eq_true, g2, yl, keyS_nm, k64, decide_false]

/-! ### length and drift drawn -/
theorem terms_ev {st : Sto} {b : Nat} (hB : BagAt st b) : ∃ (l d : Int) (st' : Sto), m__law_terms [.ref b] st = .ok (.tup [.int l, .int d]) st' ∧ 2 ≤ l ∧ l ≤ 1000 ∧ 0 ≤ d ∧ d ≤ 50 ∧ Old b st st' ∧ BagAt st' b := by
  obtain ⟨r1, S1, e1, r10, r11, o1, B1, l1⟩ := take_ev (m := 3) (hB.app (.lst ([9, 60, 999].map A.int))) (by decide) (by decide)
  have hl := hB.lt
  have g1 : S1[st.length]? = some (.lst ([9, 60, 999].map A.int)) := o1.get (List.getElem?_concat_length ..) (by omega)
  obtain ⟨most, mm, gm, _⟩ := pickI (ns := [9, 60, 999]) r10 r11
  obtain ⟨r2, S2, e2, r20, r21, o2, B2, l2⟩ := take_ev (m := 6) (B1.app (.lst ([0, 1, 49, 50, 10, 51].map A.int))) (by decide) (by decide)
  have hl1 := B1.lt
  have g2 : S2[S1.length]? = some (.lst ([0, 1, 49, 50, 10, 51].map A.int)) := o2.get (List.getElem?_concat_length ..) (by omega)
  obtain ⟨sl, ms, gs, _⟩ := pickI (ns := [0, 1, 49, 50, 10, 51]) r20 r21
  have O2 : Old b st S2 := (((Old.app b st _).trans o1).trans (Old.app b S1 _)).trans o2
  have hm : 9 ≤ most ∧ most ≤ 999 := by
    simp only [List.mem_cons, List.not_mem_nil, or_false] at mm
    omega
  have hs : sl = 51 ∨ (0 ≤ sl ∧ sl ≤ 50) := by
    simp only [List.mem_cons, List.not_mem_nil, or_false] at ms
    omega
  simp only [List.map_cons, List.map_nil] at e1 g1 gm e2 g2 gs
  rw [st__law_terms]
  unfold b__law_terms
  by_cases h : sl = 51
  · obtain ⟨d, S3, e3, d0, d1, o3, B3, l3⟩ := take_ev (m := 51) B2 (by decide) (by decide)
    obtain ⟨r4, S4, e4, r40, r41, o4, B4, l4⟩ := take_ev (m := most) B3 (by omega) (by omega)
    refine ⟨2 + r4, d, S4, ?_, by omega, by omega, d0, by omega, (O2.trans o3).trans o4, B4⟩
    simp only [ev_bok, ev_bno, ev_bex, ev_tok, ev_tno, ev_tex, ev_nnx, ev_nrt, ev_nbk, ev_nct, ev_nex, ev_nno, ev_frt, ev_fnx, ev_fex, ev_xok, ev_lsome, ev_lnone, ev_seq, ev_if, ev_ret, ev_retN, ev_drop, ev_nop, ev_brk, ev_cont, ev_asgN, ev_asgT, ev_asgO, ev_mgTup, ev_mgN, ev_mgC, ev_mg0, ev_putL, ev_putO, ev_var, ev_vr, ev_c, ev_op, ev_un, ev_test, ev_tb, ev_notT, ev_andT, ev_orT, ev_ifE, ev_not, ev_nb, ev_and, ev_andK, ev_or, ev_orK, ev_chain, ev_chK, ev_nil, ev_cons, ev_tup, ev_lst, ev_new, ev_call, ev_cb, ev_size, ev_addI, ev_addS, ev_addT, ev_addL, ev_catO, ev_sub, ev_mul, ev_div, ev_mod, ev_p5, ev_p6, ev_p12, ev_p18, ev_p30, ev_neg, ev_ltI, ev_ltS, ev_leI, ev_leS, ev_gt, ev_ge, ev_eqI, ev_eqS, ev_neI, ev_neS, ev_neB, ev_eqB, ev_is, ev_isnot, ev_ixT, ev_ixS, ev_ixR, ev_ixL, ev_ixK, ev_getL, ev_getM, ev_gL, ev_gM, ev_at0, ev_at1, ev_at2, ev_at3, ev_at4, ev_lenS, ev_lenR, ev_lenT, ev_lenL, ev_lenO, ev_lenD, ev_abs, ev_min2, ev_max2, ev_intI, ev_intB, ev_set, ev_fc, ev_setset, ev_last, ev_appk, ev_app0, ev_setk, ev_set0, ev_assoc, ev_lapp, ev_lappA, ev_sl, ev_nopart, ev_part, ev_ptK, ev_slT, ev_slS, ev_slR, ev_slK, ev_tyN, ev_tyB, ev_tyI, ev_tyS, ev_tyT, ev_tyL, ev_tyR, ev_tyRL, ev_isi, ev_isi1, ev_isi2, ev_isi3, ev_isi4, ev_isi5, ev_isiT, ev_isi2K, ev_isTy, ev_list, ev_listK, ev_tuple, ev_tupK, ev_getST, ev_getSR, ev_getSL, ev_all, ev_allK, ev_eqXI, ev_eqXS, ev_neXI, ev_neXS, ev_neXB, ev_eqXB, ev_eqXR, ev_neXR, ev_nil2, ev_eqK, ev_neK, ev_meth, ev_meth0, ev_mth1, ev_mth2, ev_mth3, ev_append, ev_m0, ev_m0K, ev_str, ev_for, ev_miR1, ev_rg1K, ev_miL, ev_liK, ev_miT, ev_tiK, ev_lc, ev_wipe0, ev_wipeS, ev_yes, ev_lenSet, ev_lenSetK, ev_listR, ev_lrK, ev_put2, ev_p2A, ev_p2K, ev_p2E, ev_put1, ev_pt1, ev_addXI, ev_addXB, ev_addXS, ev_addXT, ev_addXL, ev_subXI, ev_subXB, ev_mulXI, ev_mulXB, ev_mulXL, ev_negXI, ev_negXB, ev_strXI, ev_strXB, ev_mulYI, ev_mulYB, ev_mulYL, ev_mulYT, ev_dnew, ev_dnewT, ev_dgetE, ev_getD, ev_gD, ev_keyI, ev_keyS, ev_dgK, ev_dinE, ev_diK, ev_dputE, ev_dpK, ev_dget2E, ev_isDA, ev_isSome, ev_isNone, ev_dg2K, ev_dpop2E, ev_dp2K, ev_dp3S, ev_dp3N, ev_sortedE, ev_srO1, ev_srO2, ev_gLd, ev_srKS, ev_srKI, ev_gDT, ev_gT, ev_tinE, ev_tiKK, ev_keysA, ev_keysN, ev_keysC, ev_dputTE, ev_dptK, ev_dispE, ev_mpN, ev_mpC, ev_pcK, ev_dsK, ev_dsK2, ev_lc2E, ev_imp, ev_simp, ev_split, ev_splF, ev_splG, ev_fmt, ev_fmtS, ev_fmtI, ev_addK, ev_js0, ev_js1, ev_joined, ev_star, ev_starK, ev_each2, ev_each2K, ev_unl, ev_unlK, ev_intS, ev_strYS, ev_strYI, List.getElem?_cons_zero, List.getElem?_cons_succ, List.set_cons_zero, List.set_cons_succ, List.length_cons, List.length_nil, List.cons_append, List.nil_append, if_true, if_false, Bool.false_eq_true, Bool.true_eq_false, reduceIte, Bool.not_true, Bool.not_false, Bool.and_true, Bool.true_and, Bool.and_false, Bool.false_and, Bool.or_true, Bool.true_or, Bool.or_false, Bool.false_or, decide_eq_true_eq, Nat.reduceAdd, Nat.reduceLeDiff, Nat.zero_add, Int.reduceLT, Int.reduceLE, Int.reduceEq, Int.reduceNeg, Nat.reduceEqDiff, and_self, and_true, true_and, decide_true, decide_false, eq_self, ite_true, ite_false, Int.reduceSub, Int.reduceAdd, Int.cast_ofNat_Int, Int.natCast_add, Int.cast_ofNat_Int, Nat.reduceSub, Nat.add_assoc, String.reduceBEq, String.reduceEq, Bool.or_not_self, beq_self_eq_true, e1, g1, gm, e2, g2, gs, h, e3, e4]
  · obtain ⟨r4, S4, e4, r40, r41, o4, B4, l4⟩ := take_ev (m := most) B2 (by omega) (by omega)
    refine ⟨2 + r4, sl, S4, ?_, by omega, by omega, by omega, by omega, O2.trans o4, B4⟩
    simp only [ev_bok, ev_bno, ev_bex, ev_tok, ev_tno, ev_tex, ev_nnx, ev_nrt, ev_nbk, ev_nct, ev_nex, ev_nno, ev_frt, ev_fnx, ev_fex, ev_xok, ev_lsome, ev_lnone, ev_seq, ev_if, ev_ret, ev_retN, ev_drop, ev_nop, ev_brk, ev_cont, ev_asgN, ev_asgT, ev_asgO, ev_mgTup, ev_mgN, ev_mgC, ev_mg0, ev_putL, ev_putO, ev_var, ev_vr, ev_c, ev_op, ev_un, ev_test, ev_tb, ev_notT, ev_andT, ev_orT, ev_ifE, ev_not, ev_nb, ev_and, ev_andK, ev_or, ev_orK, ev_chain, ev_chK, ev_nil, ev_cons, ev_tup, ev_lst, ev_new, ev_call, ev_cb, ev_size, ev_addI, ev_addS, ev_addT, ev_addL, ev_catO, ev_sub, ev_mul, ev_div, ev_mod, ev_p5, ev_p6, ev_p12, ev_p18, ev_p30, ev_neg, ev_ltI, ev_ltS, ev_leI, ev_leS, ev_gt, ev_ge, ev_eqI, ev_eqS, ev_neI, ev_neS, ev_neB, ev_eqB, ev_is, ev_isnot, ev_ixT, ev_ixS, ev_ixR, ev_ixL, ev_ixK, ev_getL, ev_getM, ev_gL, ev_gM, ev_at0, ev_at1, ev_at2, ev_at3, ev_at4, ev_lenS, ev_lenR, ev_lenT, ev_lenL, ev_lenO, ev_lenD, ev_abs, ev_min2, ev_max2, ev_intI, ev_intB, ev_set, ev_fc, ev_setset, ev_last, ev_appk, ev_app0, ev_setk, ev_set0, ev_assoc, ev_lapp, ev_lappA, ev_sl, ev_nopart, ev_part, ev_ptK, ev_slT, ev_slS, ev_slR, ev_slK, ev_tyN, ev_tyB, ev_tyI, ev_tyS, ev_tyT, ev_tyL, ev_tyR, ev_tyRL, ev_isi, ev_isi1, ev_isi2, ev_isi3, ev_isi4, ev_isi5, ev_isiT, ev_isi2K, ev_isTy, ev_list, ev_listK, ev_tuple, ev_tupK, ev_getST, ev_getSR, ev_getSL, ev_all, ev_allK, ev_eqXI, ev_eqXS, ev_neXI, ev_neXS, ev_neXB, ev_eqXB, ev_eqXR, ev_neXR, ev_nil2, ev_eqK, ev_neK, ev_meth, ev_meth0, ev_mth1, ev_mth2, ev_mth3, ev_append, ev_m0, ev_m0K, ev_str, ev_for, ev_miR1, ev_rg1K, ev_miL, ev_liK, ev_miT, ev_tiK, ev_lc, ev_wipe0, ev_wipeS, ev_yes, ev_lenSet, ev_lenSetK, ev_listR, ev_lrK, ev_put2, ev_p2A, ev_p2K, ev_p2E, ev_put1, ev_pt1, ev_addXI, ev_addXB, ev_addXS, ev_addXT, ev_addXL, ev_subXI, ev_subXB, ev_mulXI, ev_mulXB, ev_mulXL, ev_negXI, ev_negXB, ev_strXI, ev_strXB, ev_mulYI, ev_mulYB, ev_mulYL, ev_mulYT, ev_dnew, ev_dnewT, ev_dgetE, ev_getD, ev_gD, ev_keyI, ev_keyS, ev_dgK, ev_dinE, ev_diK, ev_dputE, ev_dpK, ev_dget2E, ev_isDA, ev_isSome, ev_isNone, ev_dg2K, ev_dpop2E, ev_dp2K, ev_dp3S, ev_dp3N, ev_sortedE, ev_srO1, ev_srO2, ev_gLd, ev_srKS, ev_srKI, ev_gDT, ev_gT, ev_tinE, ev_tiKK, ev_keysA, ev_keysN, ev_keysC, ev_dputTE, ev_dptK, ev_dispE, ev_mpN, ev_mpC, ev_pcK, ev_dsK, ev_dsK2, ev_lc2E, ev_imp, ev_simp, ev_split, ev_splF, ev_splG, ev_fmt, ev_fmtS, ev_fmtI, ev_addK, ev_js0, ev_js1, ev_joined, ev_star, ev_starK, ev_each2, ev_each2K, ev_unl, ev_unlK, ev_intS, ev_strYS, ev_strYI, List.getElem?_cons_zero, List.getElem?_cons_succ, List.set_cons_zero, List.set_cons_succ, List.length_cons, List.length_nil, List.cons_append, List.nil_append, if_true, if_false, Bool.false_eq_true, Bool.true_eq_false, reduceIte, Bool.not_true, Bool.not_false, Bool.and_true, Bool.true_and, Bool.and_false, Bool.false_and, Bool.or_true, Bool.true_or, Bool.or_false, Bool.false_or, decide_eq_true_eq, Nat.reduceAdd, Nat.reduceLeDiff, Nat.zero_add, Int.reduceLT, Int.reduceLE, Int.reduceEq, Int.reduceNeg, Nat.reduceEqDiff, and_self, and_true, true_and, decide_true, decide_false, eq_self, ite_true, ite_false, Int.reduceSub, Int.reduceAdd, Int.cast_ofNat_Int, Int.natCast_add, Int.cast_ofNat_Int, Nat.reduceSub, Nat.add_assoc, String.reduceBEq, String.reduceEq, Bool.or_not_self, beq_self_eq_true, e1, g1, gm, e2, g2, gs, h, e4, decide_false]

/-! ### what the small readings tell of data -/
def wholeA : A → Bool
  | .int _ => true
  | _ => false
def numA : A → Bool
  | .int i => decide (0 ≤ i)
  | _ => false
def withinA (lo hi : Int) : A → Bool
  | .int i => decide (lo ≤ i) && decide (i ≤ hi)
  | _ => false
def tupleA (lo hi : Int) : A → Bool
  | .tup xs => decide (lo ≤ xs.length) && decide ((xs.length : Int) ≤ hi)
  | _ => false
theorem ty_ref {st : Sto} {n : Nat} {t : String} (h : tyA st (.ref n) = some t) : ∃ xs, st[n]? = some (.lst xs) := by
  rw [ev_tyR] at h
  unfold tyR at h
  split at h
  · rename_i xs e
    exact ⟨xs, e⟩
  · cases h
theorem whole_ev {st : Sto} {a : A} (h : ∃ t, tyA st a = some t) : m_is_whole [a] st = .ok (.bl (wholeA a)) st := by
  obtain ⟨t, ht⟩ := h
  rw [st_is_whole]
  unfold b_is_whole
  cases a with
  | ref n =>
    obtain ⟨xs, e⟩ := ty_ref ht
    simp only [ev_bok, ev_bno, ev_bex, ev_tok, ev_tno, ev_tex, ev_nnx, ev_nrt, ev_nbk, ev_nct, ev_nex, ev_nno, ev_frt, ev_fnx, ev_fex, ev_xok, ev_lsome, ev_lnone, ev_seq, ev_if, ev_ret, ev_retN, ev_drop, ev_nop, ev_brk, ev_cont, ev_asgN, ev_asgT, ev_asgO, ev_mgTup, ev_mgN, ev_mgC, ev_mg0, ev_putL, ev_putO, ev_var, ev_vr, ev_c, ev_op, ev_un, ev_test, ev_tb, ev_notT, ev_andT, ev_orT, ev_ifE, ev_not, ev_nb, ev_and, ev_andK, ev_or, ev_orK, ev_chain, ev_chK, ev_nil, ev_cons, ev_tup, ev_lst, ev_new, ev_call, ev_cb, ev_size, ev_addI, ev_addS, ev_addT, ev_addL, ev_catO, ev_sub, ev_mul, ev_div, ev_mod, ev_p5, ev_p6, ev_p12, ev_p18, ev_p30, ev_neg, ev_ltI, ev_ltS, ev_leI, ev_leS, ev_gt, ev_ge, ev_eqI, ev_eqS, ev_neI, ev_neS, ev_neB, ev_eqB, ev_is, ev_isnot, ev_ixT, ev_ixS, ev_ixR, ev_ixL, ev_ixK, ev_getL, ev_getM, ev_gL, ev_gM, ev_at0, ev_at1, ev_at2, ev_at3, ev_at4, ev_lenS, ev_lenR, ev_lenT, ev_lenL, ev_lenO, ev_lenD, ev_abs, ev_min2, ev_max2, ev_intI, ev_intB, ev_set, ev_fc, ev_setset, ev_last, ev_appk, ev_app0, ev_setk, ev_set0, ev_assoc, ev_lapp, ev_lappA, ev_sl, ev_nopart, ev_part, ev_ptK, ev_slT, ev_slS, ev_slR, ev_slK, ev_tyN, ev_tyB, ev_tyI, ev_tyS, ev_tyT, ev_tyL, ev_tyR, ev_tyRL, ev_isi, ev_isi1, ev_isi2, ev_isi3, ev_isi4, ev_isi5, ev_isiT, ev_isi2K, ev_isTy, ev_list, ev_listK, ev_tuple, ev_tupK, ev_getST, ev_getSR, ev_getSL, ev_all, ev_allK, ev_eqXI, ev_eqXS, ev_neXI, ev_neXS, ev_neXB, ev_eqXB, ev_eqXR, ev_neXR, ev_nil2, ev_eqK, ev_neK, ev_meth, ev_meth0, ev_mth1, ev_mth2, ev_mth3, ev_append, ev_m0, ev_m0K, ev_str, ev_for, ev_miR1, ev_rg1K, ev_miL, ev_liK, ev_miT, ev_tiK, ev_lc, ev_wipe0, ev_wipeS, ev_yes, ev_lenSet, ev_lenSetK, ev_listR, ev_lrK, ev_put2, ev_p2A, ev_p2K, ev_p2E, ev_put1, ev_pt1, ev_addXI, ev_addXB, ev_addXS, ev_addXT, ev_addXL, ev_subXI, ev_subXB, ev_mulXI, ev_mulXB, ev_mulXL, ev_negXI, ev_negXB, ev_strXI, ev_strXB, ev_mulYI, ev_mulYB, ev_mulYL, ev_mulYT, ev_dnew, ev_dnewT, ev_dgetE, ev_getD, ev_gD, ev_keyI, ev_keyS, ev_dgK, ev_dinE, ev_diK, ev_dputE, ev_dpK, ev_dget2E, ev_isDA, ev_isSome, ev_isNone, ev_dg2K, ev_dpop2E, ev_dp2K, ev_dp3S, ev_dp3N, ev_sortedE, ev_srO1, ev_srO2, ev_gLd, ev_srKS, ev_srKI, ev_gDT, ev_gT, ev_tinE, ev_tiKK, ev_keysA, ev_keysN, ev_keysC, ev_dputTE, ev_dptK, ev_dispE, ev_mpN, ev_mpC, ev_pcK, ev_dsK, ev_dsK2, ev_lc2E, ev_imp, ev_simp, ev_split, ev_splF, ev_splG, ev_fmt, ev_fmtS, ev_fmtI, ev_addK, ev_js0, ev_js1, ev_joined, ev_star, ev_starK, ev_each2, ev_each2K, ev_unl, ev_unlK, ev_intS, ev_strYS, ev_strYI, List.getElem?_cons_zero, List.getElem?_cons_succ, List.set_cons_zero, List.set_cons_succ, List.length_cons, List.length_nil, List.cons_append, List.nil_append, if_true, if_false, Bool.false_eq_true, Bool.true_eq_false, reduceIte, Bool.not_true, Bool.not_false, Bool.and_true, Bool.true_and, Bool.and_false, Bool.false_and, Bool.or_true, Bool.true_or, Bool.or_false, Bool.false_or, decide_eq_true_eq, Nat.reduceAdd, Nat.reduceLeDiff, Nat.zero_add, Int.reduceLT, Int.reduceLE, Int.reduceEq, Int.reduceNeg, Nat.reduceEqDiff, and_self, and_true, true_and, decide_true, decide_false, eq_self, ite_true, ite_false, Int.reduceSub, Int.reduceAdd, Int.cast_ofNat_Int, Int.natCast_add, Int.cast_ofNat_Int, Nat.reduceSub, Nat.add_assoc, String.reduceBEq, String.reduceEq, Bool.or_not_self, beq_self_eq_true, e]
    rfl
  | adr x => cases ht
  | ty x => cases ht
  | _ =>
    simp only [ev_bok, ev_bno, ev_bex, ev_tok, ev_tno, ev_tex, ev_nnx, ev_nrt, ev_nbk, ev_nct, ev_nex, ev_nno, ev_frt, ev_fnx, ev_fex, ev_xok, ev_lsome, ev_lnone, ev_seq, ev_if, ev_ret, ev_retN, ev_drop, ev_nop, ev_brk, ev_cont, ev_asgN, ev_asgT, ev_asgO, ev_mgTup, ev_mgN, ev_mgC, ev_mg0, ev_putL, ev_putO, ev_var, ev_vr, ev_c, ev_op, ev_un, ev_test, ev_tb, ev_notT, ev_andT, ev_orT, ev_ifE, ev_not, ev_nb, ev_and, ev_andK, ev_or, ev_orK, ev_chain, ev_chK, ev_nil, ev_cons, ev_tup, ev_lst, ev_new, ev_call, ev_cb, ev_size, ev_addI, ev_addS, ev_addT, ev_addL, ev_catO, ev_sub, ev_mul, ev_div, ev_mod, ev_p5, ev_p6, ev_p12, ev_p18, ev_p30, ev_neg, ev_ltI, ev_ltS, ev_leI, ev_leS, ev_gt, ev_ge, ev_eqI, ev_eqS, ev_neI, ev_neS, ev_neB, ev_eqB, ev_is, ev_isnot, ev_ixT, ev_ixS, ev_ixR, ev_ixL, ev_ixK, ev_getL, ev_getM, ev_gL, ev_gM, ev_at0, ev_at1, ev_at2, ev_at3, ev_at4, ev_lenS, ev_lenR, ev_lenT, ev_lenL, ev_lenO, ev_lenD, ev_abs, ev_min2, ev_max2, ev_intI, ev_intB, ev_set, ev_fc, ev_setset, ev_last, ev_appk, ev_app0, ev_setk, ev_set0, ev_assoc, ev_lapp, ev_lappA, ev_sl, ev_nopart, ev_part, ev_ptK, ev_slT, ev_slS, ev_slR, ev_slK, ev_tyN, ev_tyB, ev_tyI, ev_tyS, ev_tyT, ev_tyL, ev_tyR, ev_tyRL, ev_isi, ev_isi1, ev_isi2, ev_isi3, ev_isi4, ev_isi5, ev_isiT, ev_isi2K, ev_isTy, ev_list, ev_listK, ev_tuple, ev_tupK, ev_getST, ev_getSR, ev_getSL, ev_all, ev_allK, ev_eqXI, ev_eqXS, ev_neXI, ev_neXS, ev_neXB, ev_eqXB, ev_eqXR, ev_neXR, ev_nil2, ev_eqK, ev_neK, ev_meth, ev_meth0, ev_mth1, ev_mth2, ev_mth3, ev_append, ev_m0, ev_m0K, ev_str, ev_for, ev_miR1, ev_rg1K, ev_miL, ev_liK, ev_miT, ev_tiK, ev_lc, ev_wipe0, ev_wipeS, ev_yes, ev_lenSet, ev_lenSetK, ev_listR, ev_lrK, ev_put2, ev_p2A, ev_p2K, ev_p2E, ev_put1, ev_pt1, ev_addXI, ev_addXB, ev_addXS, ev_addXT, ev_addXL, ev_subXI, ev_subXB, ev_mulXI, ev_mulXB, ev_mulXL, ev_negXI, ev_negXB, ev_strXI, ev_strXB, ev_mulYI, ev_mulYB, ev_mulYL, ev_mulYT, ev_dnew, ev_dnewT, ev_dgetE, ev_getD, ev_gD, ev_keyI, ev_keyS, ev_dgK, ev_dinE, ev_diK, ev_dputE, ev_dpK, ev_dget2E, ev_isDA, ev_isSome, ev_isNone, ev_dg2K, ev_dpop2E, ev_dp2K, ev_dp3S, ev_dp3N, ev_sortedE, ev_srO1, ev_srO2, ev_gLd, ev_srKS, ev_srKI, ev_gDT, ev_gT, ev_tinE, ev_tiKK, ev_keysA, ev_keysN, ev_keysC, ev_dputTE, ev_dptK, ev_dispE, ev_mpN, ev_mpC, ev_pcK, ev_dsK, ev_dsK2, ev_lc2E, ev_imp, ev_simp, ev_split, ev_splF, ev_splG, ev_fmt, ev_fmtS, ev_fmtI, ev_addK, ev_js0, ev_js1, ev_joined, ev_star, ev_starK, ev_each2, ev_each2K, ev_unl, ev_unlK, ev_intS, ev_strYS, ev_strYI, List.getElem?_cons_zero, List.getElem?_cons_succ, List.set_cons_zero, List.set_cons_succ, List.length_cons, List.length_nil, List.cons_append, List.nil_append, if_true, if_false, Bool.false_eq_true, Bool.true_eq_false, reduceIte, Bool.not_true, Bool.not_false, Bool.and_true, Bool.true_and, Bool.and_false, Bool.false_and, Bool.or_true, Bool.true_or, Bool.or_false, Bool.false_or, decide_eq_true_eq, Nat.reduceAdd, Nat.reduceLeDiff, Nat.zero_add, Int.reduceLT, Int.reduceLE, Int.reduceEq, Int.reduceNeg, Nat.reduceEqDiff, and_self, and_true, true_and, decide_true, decide_false, eq_self, ite_true, ite_false, Int.reduceSub, Int.reduceAdd, Int.cast_ofNat_Int, Int.natCast_add, Int.cast_ofNat_Int, Nat.reduceSub, Nat.add_assoc, String.reduceBEq, String.reduceEq, Bool.or_not_self, beq_self_eq_true]
    rfl
theorem within_ev {st : Sto} {a : A} {lo hi : Int} (h : ∃ t, tyA st a = some t) : m_is_within [a, .int lo, .int hi] st = .ok (.bl (withinA lo hi a)) st := by
  have e1 := whole_ev h
  rw [st_is_within]
  unfold b_is_within
  cases a with
  | int i =>
    by_cases c : lo ≤ i
    · simp only [ev_bok, ev_bno, ev_bex, ev_tok, ev_tno, ev_tex, ev_nnx, ev_nrt, ev_nbk, ev_nct, ev_nex, ev_nno, ev_frt, ev_fnx, ev_fex, ev_xok, ev_lsome, ev_lnone, ev_seq, ev_if, ev_ret, ev_retN, ev_drop, ev_nop, ev_brk, ev_cont, ev_asgN, ev_asgT, ev_asgO, ev_mgTup, ev_mgN, ev_mgC, ev_mg0, ev_putL, ev_putO, ev_var, ev_vr, ev_c, ev_op, ev_un, ev_test, ev_tb, ev_notT, ev_andT, ev_orT, ev_ifE, ev_not, ev_nb, ev_and, ev_andK, ev_or, ev_orK, ev_chain, ev_chK, ev_nil, ev_cons, ev_tup, ev_lst, ev_new, ev_call, ev_cb, ev_size, ev_addI, ev_addS, ev_addT, ev_addL, ev_catO, ev_sub, ev_mul, ev_div, ev_mod, ev_p5, ev_p6, ev_p12, ev_p18, ev_p30, ev_neg, ev_ltI, ev_ltS, ev_leI, ev_leS, ev_gt, ev_ge, ev_eqI, ev_eqS, ev_neI, ev_neS, ev_neB, ev_eqB, ev_is, ev_isnot, ev_ixT, ev_ixS, ev_ixR, ev_ixL, ev_ixK, ev_getL, ev_getM, ev_gL, ev_gM, ev_at0, ev_at1, ev_at2, ev_at3, ev_at4, ev_lenS, ev_lenR, ev_lenT, ev_lenL, ev_lenO, ev_lenD, ev_abs, ev_min2, ev_max2, ev_intI, ev_intB, ev_set, ev_fc, ev_setset, ev_last, ev_appk, ev_app0, ev_setk, ev_set0, ev_assoc, ev_lapp, ev_lappA, ev_sl, ev_nopart, ev_part, ev_ptK, ev_slT, ev_slS, ev_slR, ev_slK, ev_tyN, ev_tyB, ev_tyI, ev_tyS, ev_tyT, ev_tyL, ev_tyR, ev_tyRL, ev_isi, ev_isi1, ev_isi2, ev_isi3, ev_isi4, ev_isi5, ev_isiT, ev_isi2K, ev_isTy, ev_list, ev_listK, ev_tuple, ev_tupK, ev_getST, ev_getSR, ev_getSL, ev_all, ev_allK, ev_eqXI, ev_eqXS, ev_neXI, ev_neXS, ev_neXB, ev_eqXB, ev_eqXR, ev_neXR, ev_nil2, ev_eqK, ev_neK, ev_meth, ev_meth0, ev_mth1, ev_mth2, ev_mth3, ev_append, ev_m0, ev_m0K, ev_str, ev_for, ev_miR1, ev_rg1K, ev_miL, ev_liK, ev_miT, ev_tiK, ev_lc, ev_wipe0, ev_wipeS, ev_yes, ev_lenSet, ev_lenSetK, ev_listR, ev_lrK, ev_put2, ev_p2A, ev_p2K, ev_p2E, ev_put1, ev_pt1, ev_addXI, ev_addXB, ev_addXS, ev_addXT, ev_addXL, ev_subXI, ev_subXB, ev_mulXI, ev_mulXB, ev_mulXL, ev_negXI, ev_negXB, ev_strXI, ev_strXB, ev_mulYI, ev_mulYB, ev_mulYL, ev_mulYT, ev_dnew, ev_dnewT, ev_dgetE, ev_getD, ev_gD, ev_keyI, ev_keyS, ev_dgK, ev_dinE, ev_diK, ev_dputE, ev_dpK, ev_dget2E, ev_isDA, ev_isSome, ev_isNone, ev_dg2K, ev_dpop2E, ev_dp2K, ev_dp3S, ev_dp3N, ev_sortedE, ev_srO1, ev_srO2, ev_gLd, ev_srKS, ev_srKI, ev_gDT, ev_gT, ev_tinE, ev_tiKK, ev_keysA, ev_keysN, ev_keysC, ev_dputTE, ev_dptK, ev_dispE, ev_mpN, ev_mpC, ev_pcK, ev_dsK, ev_dsK2, ev_lc2E, ev_imp, ev_simp, ev_split, ev_splF, ev_splG, ev_fmt, ev_fmtS, ev_fmtI, ev_addK, ev_js0, ev_js1, ev_joined, ev_star, ev_starK, ev_each2, ev_each2K, ev_unl, ev_unlK, ev_intS, ev_strYS, ev_strYI, List.getElem?_cons_zero, List.getElem?_cons_succ, List.set_cons_zero, List.set_cons_succ, List.length_cons, List.length_nil, List.cons_append, List.nil_append, if_true, if_false, Bool.false_eq_true, Bool.true_eq_false, reduceIte, Bool.not_true, Bool.not_false, Bool.and_true, Bool.true_and, Bool.and_false, Bool.false_and, Bool.or_true, Bool.true_or, Bool.or_false, Bool.false_or, decide_eq_true_eq, Nat.reduceAdd, Nat.reduceLeDiff, Nat.zero_add, Int.reduceLT, Int.reduceLE, Int.reduceEq, Int.reduceNeg, Nat.reduceEqDiff, and_self, and_true, true_and, decide_true, decide_false, eq_self, ite_true, ite_false, Int.reduceSub, Int.reduceAdd, Int.cast_ofNat_Int, Int.natCast_add, Int.cast_ofNat_Int, Nat.reduceSub, Nat.add_assoc, String.reduceBEq, String.reduceEq, Bool.or_not_self, beq_self_eq_true, e1, wholeA, withinA, c]
    · simp only [ev_bok, ev_bno, ev_bex, ev_tok, ev_tno, ev_tex, ev_nnx, ev_nrt, ev_nbk, ev_nct, ev_nex, ev_nno, ev_frt, ev_fnx, ev_fex, ev_xok, ev_lsome, ev_lnone, ev_seq, ev_if, ev_ret, ev_retN, ev_drop, ev_nop, ev_brk, ev_cont, ev_asgN, ev_asgT, ev_asgO, ev_mgTup, ev_mgN, ev_mgC, ev_mg0, ev_putL, ev_putO, ev_var, ev_vr, ev_c, ev_op, ev_un, ev_test, ev_tb, ev_notT, ev_andT, ev_orT, ev_ifE, ev_not, ev_nb, ev_and, ev_andK, ev_or, ev_orK, ev_chain, ev_chK, ev_nil, ev_cons, ev_tup, ev_lst, ev_new, ev_call, ev_cb, ev_size, ev_addI, ev_addS, ev_addT, ev_addL, ev_catO, ev_sub, ev_mul, ev_div, ev_mod, ev_p5, ev_p6, ev_p12, ev_p18, ev_p30, ev_neg, ev_ltI, ev_ltS, ev_leI, ev_leS, ev_gt, ev_ge, ev_eqI, ev_eqS, ev_neI, ev_neS, ev_neB, ev_eqB, ev_is, ev_isnot, ev_ixT, ev_ixS, ev_ixR, ev_ixL, ev_ixK, ev_getL, ev_getM, ev_gL, ev_gM, ev_at0, ev_at1, ev_at2, ev_at3, ev_at4, ev_lenS, ev_lenR, ev_lenT, ev_lenL, ev_lenO, ev_lenD, ev_abs, ev_min2, ev_max2, ev_intI, ev_intB, ev_set, ev_fc, ev_setset, ev_last, ev_appk, ev_app0, ev_setk, ev_set0, ev_assoc, ev_lapp, ev_lappA, ev_sl, ev_nopart, ev_part, ev_ptK, ev_slT, ev_slS, ev_slR, ev_slK, ev_tyN, ev_tyB, ev_tyI, ev_tyS, ev_tyT, ev_tyL, ev_tyR, ev_tyRL, ev_isi, ev_isi1, ev_isi2, ev_isi3, ev_isi4, ev_isi5, ev_isiT, ev_isi2K, ev_isTy, ev_list, ev_listK, ev_tuple, ev_tupK, ev_getST, ev_getSR, ev_getSL, ev_all, ev_allK, ev_eqXI, ev_eqXS, ev_neXI, ev_neXS, ev_neXB, ev_eqXB, ev_eqXR, ev_neXR, ev_nil2, ev_eqK, ev_neK, ev_meth, ev_meth0, ev_mth1, ev_mth2, ev_mth3, ev_append, ev_m0, ev_m0K, ev_str, ev_for, ev_miR1, ev_rg1K, ev_miL, ev_liK, ev_miT, ev_tiK, ev_lc, ev_wipe0, ev_wipeS, ev_yes, ev_lenSet, ev_lenSetK, ev_listR, ev_lrK, ev_put2, ev_p2A, ev_p2K, ev_p2E, ev_put1, ev_pt1, ev_addXI, ev_addXB, ev_addXS, ev_addXT, ev_addXL, ev_subXI, ev_subXB, ev_mulXI, ev_mulXB, ev_mulXL, ev_negXI, ev_negXB, ev_strXI, ev_strXB, ev_mulYI, ev_mulYB, ev_mulYL, ev_mulYT, ev_dnew, ev_dnewT, ev_dgetE, ev_getD, ev_gD, ev_keyI, ev_keyS, ev_dgK, ev_dinE, ev_diK, ev_dputE, ev_dpK, ev_dget2E, ev_isDA, ev_isSome, ev_isNone, ev_dg2K, ev_dpop2E, ev_dp2K, ev_dp3S, ev_dp3N, ev_sortedE, ev_srO1, ev_srO2, ev_gLd, ev_srKS, ev_srKI, ev_gDT, ev_gT, ev_tinE, ev_tiKK, ev_keysA, ev_keysN, ev_keysC, ev_dputTE, ev_dptK, ev_dispE, ev_mpN, ev_mpC, ev_pcK, ev_dsK, ev_dsK2, ev_lc2E, ev_imp, ev_simp, ev_split, ev_splF, ev_splG, ev_fmt, ev_fmtS, ev_fmtI, ev_addK, ev_js0, ev_js1, ev_joined, ev_star, ev_starK, ev_each2, ev_each2K, ev_unl, ev_unlK, ev_intS, ev_strYS, ev_strYI, List.getElem?_cons_zero, List.getElem?_cons_succ, List.set_cons_zero, List.set_cons_succ, List.length_cons, List.length_nil, List.cons_append, List.nil_append, if_true, if_false, Bool.false_eq_true, Bool.true_eq_false, reduceIte, Bool.not_true, Bool.not_false, Bool.and_true, Bool.true_and, Bool.and_false, Bool.false_and, Bool.or_true, Bool.true_or, Bool.or_false, Bool.false_or, decide_eq_true_eq, Nat.reduceAdd, Nat.reduceLeDiff, Nat.zero_add, Int.reduceLT, Int.reduceLE, Int.reduceEq, Int.reduceNeg, Nat.reduceEqDiff, and_self, and_true, true_and, decide_true, decide_false, eq_self, ite_true, ite_false, Int.reduceSub, Int.reduceAdd, Int.cast_ofNat_Int, Int.natCast_add, Int.cast_ofNat_Int, Nat.reduceSub, Nat.add_assoc, String.reduceBEq, String.reduceEq, Bool.or_not_self, beq_self_eq_true, e1, wholeA, withinA, c]
  | _ => simp only [ev_bok, ev_bno, ev_bex, ev_tok, ev_tno, ev_tex, ev_nnx, ev_nrt, ev_nbk, ev_nct, ev_nex, ev_nno, ev_frt, ev_fnx, ev_fex, ev_xok, ev_lsome, ev_lnone, ev_seq, ev_if, ev_ret, ev_retN, ev_drop, ev_nop, ev_brk, ev_cont, ev_asgN, ev_asgT, ev_asgO, ev_mgTup, ev_mgN, ev_mgC, ev_mg0, ev_putL, ev_putO, ev_var, ev_vr, ev_c, ev_op, ev_un, ev_test, ev_tb, ev_notT, ev_andT, ev_orT, ev_ifE, ev_not, ev_nb, ev_and, ev_andK, ev_or, ev_orK, ev_chain, ev_chK, ev_nil, ev_cons, ev_tup, ev_lst, ev_new, ev_call, ev_cb, ev_size, ev_addI, ev_addS, ev_addT, ev_addL, ev_catO, ev_sub, ev_mul, ev_div, ev_mod, ev_p5, ev_p6, ev_p12, ev_p18, ev_p30, ev_neg, ev_ltI, ev_ltS, ev_leI, ev_leS, ev_gt, ev_ge, ev_eqI, ev_eqS, ev_neI, ev_neS, ev_neB, ev_eqB, ev_is, ev_isnot, ev_ixT, ev_ixS, ev_ixR, ev_ixL, ev_ixK, ev_getL, ev_getM, ev_gL, ev_gM, ev_at0, ev_at1, ev_at2, ev_at3, ev_at4, ev_lenS, ev_lenR, ev_lenT, ev_lenL, ev_lenO, ev_lenD, ev_abs, ev_min2, ev_max2, ev_intI, ev_intB, ev_set, ev_fc, ev_setset, ev_last, ev_appk, ev_app0, ev_setk, ev_set0, ev_assoc, ev_lapp, ev_lappA, ev_sl, ev_nopart, ev_part, ev_ptK, ev_slT, ev_slS, ev_slR, ev_slK, ev_tyN, ev_tyB, ev_tyI, ev_tyS, ev_tyT, ev_tyL, ev_tyR, ev_tyRL, ev_isi, ev_isi1, ev_isi2, ev_isi3, ev_isi4, ev_isi5, ev_isiT, ev_isi2K, ev_isTy, ev_list, ev_listK, ev_tuple, ev_tupK, ev_getST, ev_getSR, ev_getSL, ev_all, ev_allK, ev_eqXI, ev_eqXS, ev_neXI, ev_neXS, ev_neXB, ev_eqXB, ev_eqXR, ev_neXR, ev_nil2, ev_eqK, ev_neK, ev_meth, ev_meth0, ev_mth1, ev_mth2, ev_mth3, ev_append, ev_m0, ev_m0K, ev_str, ev_for, ev_miR1, ev_rg1K, ev_miL, ev_liK, ev_miT, ev_tiK, ev_lc, ev_wipe0, ev_wipeS, ev_yes, ev_lenSet, ev_lenSetK, ev_listR, ev_lrK, ev_put2, ev_p2A, ev_p2K, ev_p2E, ev_put1, ev_pt1, ev_addXI, ev_addXB, ev_addXS, ev_addXT, ev_addXL, ev_subXI, ev_subXB, ev_mulXI, ev_mulXB, ev_mulXL, ev_negXI, ev_negXB, ev_strXI, ev_strXB, ev_mulYI, ev_mulYB, ev_mulYL, ev_mulYT, ev_dnew, ev_dnewT, ev_dgetE, ev_getD, ev_gD, ev_keyI, ev_keyS, ev_dgK, ev_dinE, ev_diK, ev_dputE, ev_dpK, ev_dget2E, ev_isDA, ev_isSome, ev_isNone, ev_dg2K, ev_dpop2E, ev_dp2K, ev_dp3S, ev_dp3N, ev_sortedE, ev_srO1, ev_srO2, ev_gLd, ev_srKS, ev_srKI, ev_gDT, ev_gT, ev_tinE, ev_tiKK, ev_keysA, ev_keysN, ev_keysC, ev_dputTE, ev_dptK, ev_dispE, ev_mpN, ev_mpC, ev_pcK, ev_dsK, ev_dsK2, ev_lc2E, ev_imp, ev_simp, ev_split, ev_splF, ev_splG, ev_fmt, ev_fmtS, ev_fmtI, ev_addK, ev_js0, ev_js1, ev_joined, ev_star, ev_starK, ev_each2, ev_each2K, ev_unl, ev_unlK, ev_intS, ev_strYS, ev_strYI, List.getElem?_cons_zero, List.getElem?_cons_succ, List.set_cons_zero, List.set_cons_succ, List.length_cons, List.length_nil, List.cons_append, List.nil_append, if_true, if_false, Bool.false_eq_true, Bool.true_eq_false, reduceIte, Bool.not_true, Bool.not_false, Bool.and_true, Bool.true_and, Bool.and_false, Bool.false_and, Bool.or_true, Bool.true_or, Bool.or_false, Bool.false_or, decide_eq_true_eq, Nat.reduceAdd, Nat.reduceLeDiff, Nat.zero_add, Int.reduceLT, Int.reduceLE, Int.reduceEq, Int.reduceNeg, Nat.reduceEqDiff, and_self, and_true, true_and, decide_true, decide_false, eq_self, ite_true, ite_false, Int.reduceSub, Int.reduceAdd, Int.cast_ofNat_Int, Int.natCast_add, Int.cast_ofNat_Int, Nat.reduceSub, Nat.add_assoc, String.reduceBEq, String.reduceEq, Bool.or_not_self, beq_self_eq_true, e1, wholeA, withinA]
theorem tuple_ev {st : Sto} {a : A} {lo hi : Int} (h : ∃ t, tyA st a = some t) : m_is_tuple [a, .int lo, .int hi] st = .ok (.bl (tupleA lo hi a)) st := by
  obtain ⟨t, ht⟩ := h
  rw [st_is_tuple]
  unfold b_is_tuple
  cases a with
  | tup xs =>
    by_cases c : lo ≤ xs.length
    · simp only [ev_bok, ev_bno, ev_bex, ev_tok, ev_tno, ev_tex, ev_nnx, ev_nrt, ev_nbk, ev_nct, ev_nex, ev_nno, ev_frt, ev_fnx, ev_fex, ev_xok, ev_lsome, ev_lnone, ev_seq, ev_if, ev_ret, ev_retN, ev_drop, ev_nop, ev_brk, ev_cont, ev_asgN, ev_asgT, ev_asgO, ev_mgTup, ev_mgN, ev_mgC, ev_mg0, ev_putL, ev_putO, ev_var, ev_vr, ev_c, ev_op, ev_un, ev_test, ev_tb, ev_notT, ev_andT, ev_orT, ev_ifE, ev_not, ev_nb, ev_and, ev_andK, ev_or, ev_orK, ev_chain, ev_chK, ev_nil, ev_cons, ev_tup, ev_lst, ev_new, ev_call, ev_cb, ev_size, ev_addI, ev_addS, ev_addT, ev_addL, ev_catO, ev_sub, ev_mul, ev_div, ev_mod, ev_p5, ev_p6, ev_p12, ev_p18, ev_p30, ev_neg, ev_ltI, ev_ltS, ev_leI, ev_leS, ev_gt, ev_ge, ev_eqI, ev_eqS, ev_neI, ev_neS, ev_neB, ev_eqB, ev_is, ev_isnot, ev_ixT, ev_ixS, ev_ixR, ev_ixL, ev_ixK, ev_getL, ev_getM, ev_gL, ev_gM, ev_at0, ev_at1, ev_at2, ev_at3, ev_at4, ev_lenS, ev_lenR, ev_lenT, ev_lenL, ev_lenO, ev_lenD, ev_abs, ev_min2, ev_max2, ev_intI, ev_intB, ev_set, ev_fc, ev_setset, ev_last, ev_appk, ev_app0, ev_setk, ev_set0, ev_assoc, ev_lapp, ev_lappA, ev_sl, ev_nopart, ev_part, ev_ptK, ev_slT, ev_slS, ev_slR, ev_slK, ev_tyN, ev_tyB, ev_tyI, ev_tyS, ev_tyT, ev_tyL, ev_tyR, ev_tyRL, ev_isi, ev_isi1, ev_isi2, ev_isi3, ev_isi4, ev_isi5, ev_isiT, ev_isi2K, ev_isTy, ev_list, ev_listK, ev_tuple, ev_tupK, ev_getST, ev_getSR, ev_getSL, ev_all, ev_allK, ev_eqXI, ev_eqXS, ev_neXI, ev_neXS, ev_neXB, ev_eqXB, ev_eqXR, ev_neXR, ev_nil2, ev_eqK, ev_neK, ev_meth, ev_meth0, ev_mth1, ev_mth2, ev_mth3, ev_append, ev_m0, ev_m0K, ev_str, ev_for, ev_miR1, ev_rg1K, ev_miL, ev_liK, ev_miT, ev_tiK, ev_lc, ev_wipe0, ev_wipeS, ev_yes, ev_lenSet, ev_lenSetK, ev_listR, ev_lrK, ev_put2, ev_p2A, ev_p2K, ev_p2E, ev_put1, ev_pt1, ev_addXI, ev_addXB, ev_addXS, ev_addXT, ev_addXL, ev_subXI, ev_subXB, ev_mulXI, ev_mulXB, ev_mulXL, ev_negXI, ev_negXB, ev_strXI, ev_strXB, ev_mulYI, ev_mulYB, ev_mulYL, ev_mulYT, ev_dnew, ev_dnewT, ev_dgetE, ev_getD, ev_gD, ev_keyI, ev_keyS, ev_dgK, ev_dinE, ev_diK, ev_dputE, ev_dpK, ev_dget2E, ev_isDA, ev_isSome, ev_isNone, ev_dg2K, ev_dpop2E, ev_dp2K, ev_dp3S, ev_dp3N, ev_sortedE, ev_srO1, ev_srO2, ev_gLd, ev_srKS, ev_srKI, ev_gDT, ev_gT, ev_tinE, ev_tiKK, ev_keysA, ev_keysN, ev_keysC, ev_dputTE, ev_dptK, ev_dispE, ev_mpN, ev_mpC, ev_pcK, ev_dsK, ev_dsK2, ev_lc2E, ev_imp, ev_simp, ev_split, ev_splF, ev_splG, ev_fmt, ev_fmtS, ev_fmtI, ev_addK, ev_js0, ev_js1, ev_joined, ev_star, ev_starK, ev_each2, ev_each2K, ev_unl, ev_unlK, ev_intS, ev_strYS, ev_strYI, List.getElem?_cons_zero, List.getElem?_cons_succ, List.set_cons_zero, List.set_cons_succ, List.length_cons, List.length_nil, List.cons_append, List.nil_append, if_true, if_false, Bool.false_eq_true, Bool.true_eq_false, reduceIte, Bool.not_true, Bool.not_false, Bool.and_true, Bool.true_and, Bool.and_false, Bool.false_and, Bool.or_true, Bool.true_or, Bool.or_false, Bool.false_or, decide_eq_true_eq, Nat.reduceAdd, Nat.reduceLeDiff, Nat.zero_add, Int.reduceLT, Int.reduceLE, Int.reduceEq, Int.reduceNeg, Nat.reduceEqDiff, and_self, and_true, true_and, decide_true, decide_false, eq_self, ite_true, ite_false, Int.reduceSub, Int.reduceAdd, Int.cast_ofNat_Int, Int.natCast_add, Int.cast_ofNat_Int, Nat.reduceSub, Nat.add_assoc, String.reduceBEq, String.reduceEq, Bool.or_not_self, beq_self_eq_true, tupleA, c]
    · simp only [ev_bok, ev_bno, ev_bex, ev_tok, ev_tno, ev_tex, ev_nnx, ev_nrt, ev_nbk, ev_nct, ev_nex, ev_nno, ev_frt, ev_fnx, ev_fex, ev_xok, ev_lsome, ev_lnone, ev_seq, ev_if, ev_ret, ev_retN, ev_drop, ev_nop, ev_brk, ev_cont, ev_asgN, ev_asgT, ev_asgO, ev_mgTup, ev_mgN, ev_mgC, ev_mg0, ev_putL, ev_putO, ev_var, ev_vr, ev_c, ev_op, ev_un, ev_test, ev_tb, ev_notT, ev_andT, ev_orT, ev_ifE, ev_not, ev_nb, ev_and, ev_andK, ev_or, ev_orK, ev_chain, ev_chK, ev_nil, ev_cons, ev_tup, ev_lst, ev_new, ev_call, ev_cb, ev_size, ev_addI, ev_addS, ev_addT, ev_addL, ev_catO, ev_sub, ev_mul, ev_div, ev_mod, ev_p5, ev_p6, ev_p12, ev_p18, ev_p30, ev_neg, ev_ltI, ev_ltS, ev_leI, ev_leS, ev_gt, ev_ge, ev_eqI, ev_eqS, ev_neI, ev_neS, ev_neB, ev_eqB, ev_is, ev_isnot, ev_ixT, ev_ixS, ev_ixR, ev_ixL, ev_ixK, ev_getL, ev_getM, ev_gL, ev_gM, ev_at0, ev_at1, ev_at2, ev_at3, ev_at4, ev_lenS, ev_lenR, ev_lenT, ev_lenL, ev_lenO, ev_lenD, ev_abs, ev_min2, ev_max2, ev_intI, ev_intB, ev_set, ev_fc, ev_setset, ev_last, ev_appk, ev_app0, ev_setk, ev_set0, ev_assoc, ev_lapp, ev_lappA, ev_sl, ev_nopart, ev_part, ev_ptK, ev_slT, ev_slS, ev_slR, ev_slK, ev_tyN, ev_tyB, ev_tyI, ev_tyS, ev_tyT, ev_tyL, ev_tyR, ev_tyRL, ev_isi, ev_isi1, ev_isi2, ev_isi3, ev_isi4, ev_isi5, ev_isiT, ev_isi2K, ev_isTy, ev_list, ev_listK, ev_tuple, ev_tupK, ev_getST, ev_getSR, ev_getSL, ev_all, ev_allK, ev_eqXI, ev_eqXS, ev_neXI, ev_neXS, ev_neXB, ev_eqXB, ev_eqXR, ev_neXR, ev_nil2, ev_eqK, ev_neK, ev_meth, ev_meth0, ev_mth1, ev_mth2, ev_mth3, ev_append, ev_m0, ev_m0K, ev_str, ev_for, ev_miR1, ev_rg1K, ev_miL, ev_liK, ev_miT, ev_tiK, ev_lc, ev_wipe0, ev_wipeS, ev_yes, ev_lenSet, ev_lenSetK, ev_listR, ev_lrK, ev_put2, ev_p2A, ev_p2K, ev_p2E, ev_put1, ev_pt1, ev_addXI, ev_addXB, ev_addXS, ev_addXT, ev_addXL, ev_subXI, ev_subXB, ev_mulXI, ev_mulXB, ev_mulXL, ev_negXI, ev_negXB, ev_strXI, ev_strXB, ev_mulYI, ev_mulYB, ev_mulYL, ev_mulYT, ev_dnew, ev_dnewT, ev_dgetE, ev_getD, ev_gD, ev_keyI, ev_keyS, ev_dgK, ev_dinE, ev_diK, ev_dputE, ev_dpK, ev_dget2E, ev_isDA, ev_isSome, ev_isNone, ev_dg2K, ev_dpop2E, ev_dp2K, ev_dp3S, ev_dp3N, ev_sortedE, ev_srO1, ev_srO2, ev_gLd, ev_srKS, ev_srKI, ev_gDT, ev_gT, ev_tinE, ev_tiKK, ev_keysA, ev_keysN, ev_keysC, ev_dputTE, ev_dptK, ev_dispE, ev_mpN, ev_mpC, ev_pcK, ev_dsK, ev_dsK2, ev_lc2E, ev_imp, ev_simp, ev_split, ev_splF, ev_splG, ev_fmt, ev_fmtS, ev_fmtI, ev_addK, ev_js0, ev_js1, ev_joined, ev_star, ev_starK, ev_each2, ev_each2K, ev_unl, ev_unlK, ev_intS, ev_strYS, ev_strYI, List.getElem?_cons_zero, List.getElem?_cons_succ, List.set_cons_zero, List.set_cons_succ, List.length_cons, List.length_nil, List.cons_append, List.nil_append, if_true, if_false, Bool.false_eq_true, Bool.true_eq_false, reduceIte, Bool.not_true, Bool.not_false, Bool.and_true, Bool.true_and, Bool.and_false, Bool.false_and, Bool.or_true, Bool.true_or, Bool.or_false, Bool.false_or, decide_eq_true_eq, Nat.reduceAdd, Nat.reduceLeDiff, Nat.zero_add, Int.reduceLT, Int.reduceLE, Int.reduceEq, Int.reduceNeg, Nat.reduceEqDiff, and_self, and_true, true_and, decide_true, decide_false, eq_self, ite_true, ite_false, Int.reduceSub, Int.reduceAdd, Int.cast_ofNat_Int, Int.natCast_add, Int.cast_ofNat_Int, Nat.reduceSub, Nat.add_assoc, String.reduceBEq, String.reduceEq, Bool.or_not_self, beq_self_eq_true, tupleA, c]
  | ref n =>
    obtain ⟨xs, e⟩ := ty_ref ht
    simp only [ev_bok, ev_bno, ev_bex, ev_tok, ev_tno, ev_tex, ev_nnx, ev_nrt, ev_nbk, ev_nct, ev_nex, ev_nno, ev_frt, ev_fnx, ev_fex, ev_xok, ev_lsome, ev_lnone, ev_seq, ev_if, ev_ret, ev_retN, ev_drop, ev_nop, ev_brk, ev_cont, ev_asgN, ev_asgT, ev_asgO, ev_mgTup, ev_mgN, ev_mgC, ev_mg0, ev_putL, ev_putO, ev_var, ev_vr, ev_c, ev_op, ev_un, ev_test, ev_tb, ev_notT, ev_andT, ev_orT, ev_ifE, ev_not, ev_nb, ev_and, ev_andK, ev_or, ev_orK, ev_chain, ev_chK, ev_nil, ev_cons, ev_tup, ev_lst, ev_new, ev_call, ev_cb, ev_size, ev_addI, ev_addS, ev_addT, ev_addL, ev_catO, ev_sub, ev_mul, ev_div, ev_mod, ev_p5, ev_p6, ev_p12, ev_p18, ev_p30, ev_neg, ev_ltI, ev_ltS, ev_leI, ev_leS, ev_gt, ev_ge, ev_eqI, ev_eqS, ev_neI, ev_neS, ev_neB, ev_eqB, ev_is, ev_isnot, ev_ixT, ev_ixS, ev_ixR, ev_ixL, ev_ixK, ev_getL, ev_getM, ev_gL, ev_gM, ev_at0, ev_at1, ev_at2, ev_at3, ev_at4, ev_lenS, ev_lenR, ev_lenT, ev_lenL, ev_lenO, ev_lenD, ev_abs, ev_min2, ev_max2, ev_intI, ev_intB, ev_set, ev_fc, ev_setset, ev_last, ev_appk, ev_app0, ev_setk, ev_set0, ev_assoc, ev_lapp, ev_lappA, ev_sl, ev_nopart, ev_part, ev_ptK, ev_slT, ev_slS, ev_slR, ev_slK, ev_tyN, ev_tyB, ev_tyI, ev_tyS, ev_tyT, ev_tyL, ev_tyR, ev_tyRL, ev_isi, ev_isi1, ev_isi2, ev_isi3, ev_isi4, ev_isi5, ev_isiT, ev_isi2K, ev_isTy, ev_list, ev_listK, ev_tuple, ev_tupK, ev_getST, ev_getSR, ev_getSL, ev_all, ev_allK, ev_eqXI, ev_eqXS, ev_neXI, ev_neXS, ev_neXB, ev_eqXB, ev_eqXR, ev_neXR, ev_nil2, ev_eqK, ev_neK, ev_meth, ev_meth0, ev_mth1, ev_mth2, ev_mth3, ev_append, ev_m0, ev_m0K, ev_str, ev_for, ev_miR1, ev_rg1K, ev_miL, ev_liK, ev_miT, ev_tiK, ev_lc, ev_wipe0, ev_wipeS, ev_yes, ev_lenSet, ev_lenSetK, ev_listR, ev_lrK, ev_put2, ev_p2A, ev_p2K, ev_p2E, ev_put1, ev_pt1, ev_addXI, ev_addXB, ev_addXS, ev_addXT, ev_addXL, ev_subXI, ev_subXB, ev_mulXI, ev_mulXB, ev_mulXL, ev_negXI, ev_negXB, ev_strXI, ev_strXB, ev_mulYI, ev_mulYB, ev_mulYL, ev_mulYT, ev_dnew, ev_dnewT, ev_dgetE, ev_getD, ev_gD, ev_keyI, ev_keyS, ev_dgK, ev_dinE, ev_diK, ev_dputE, ev_dpK, ev_dget2E, ev_isDA, ev_isSome, ev_isNone, ev_dg2K, ev_dpop2E, ev_dp2K, ev_dp3S, ev_dp3N, ev_sortedE, ev_srO1, ev_srO2, ev_gLd, ev_srKS, ev_srKI, ev_gDT, ev_gT, ev_tinE, ev_tiKK, ev_keysA, ev_keysN, ev_keysC, ev_dputTE, ev_dptK, ev_dispE, ev_mpN, ev_mpC, ev_pcK, ev_dsK, ev_dsK2, ev_lc2E, ev_imp, ev_simp, ev_split, ev_splF, ev_splG, ev_fmt, ev_fmtS, ev_fmtI, ev_addK, ev_js0, ev_js1, ev_joined, ev_star, ev_starK, ev_each2, ev_each2K, ev_unl, ev_unlK, ev_intS, ev_strYS, ev_strYI, List.getElem?_cons_zero, List.getElem?_cons_succ, List.set_cons_zero, List.set_cons_succ, List.length_cons, List.length_nil, List.cons_append, List.nil_append, if_true, if_false, Bool.false_eq_true, Bool.true_eq_false, reduceIte, Bool.not_true, Bool.not_false, Bool.and_true, Bool.true_and, Bool.and_false, Bool.false_and, Bool.or_true, Bool.true_or, Bool.or_false, Bool.false_or, decide_eq_true_eq, Nat.reduceAdd, Nat.reduceLeDiff, Nat.zero_add, Int.reduceLT, Int.reduceLE, Int.reduceEq, Int.reduceNeg, Nat.reduceEqDiff, and_self, and_true, true_and, decide_true, decide_false, eq_self, ite_true, ite_false, Int.reduceSub, Int.reduceAdd, Int.cast_ofNat_Int, Int.natCast_add, Int.cast_ofNat_Int, Nat.reduceSub, Nat.add_assoc, String.reduceBEq, String.reduceEq, Bool.or_not_self, beq_self_eq_true, e, tupleA]
  | adr x => cases ht
  | ty x => cases ht
  | _ => simp only [ev_bok, ev_bno, ev_bex, ev_tok, ev_tno, ev_tex, ev_nnx, ev_nrt, ev_nbk, ev_nct, ev_nex, ev_nno, ev_frt, ev_fnx, ev_fex, ev_xok, ev_lsome, ev_lnone, ev_seq, ev_if, ev_ret, ev_retN, ev_drop, ev_nop, ev_brk, ev_cont, ev_asgN, ev_asgT, ev_asgO, ev_mgTup, ev_mgN, ev_mgC, ev_mg0, ev_putL, ev_putO, ev_var, ev_vr, ev_c, ev_op, ev_un, ev_test, ev_tb, ev_notT, ev_andT, ev_orT, ev_ifE, ev_not, ev_nb, ev_and, ev_andK, ev_or, ev_orK, ev_chain, ev_chK, ev_nil, ev_cons, ev_tup, ev_lst, ev_new, ev_call, ev_cb, ev_size, ev_addI, ev_addS, ev_addT, ev_addL, ev_catO, ev_sub, ev_mul, ev_div, ev_mod, ev_p5, ev_p6, ev_p12, ev_p18, ev_p30, ev_neg, ev_ltI, ev_ltS, ev_leI, ev_leS, ev_gt, ev_ge, ev_eqI, ev_eqS, ev_neI, ev_neS, ev_neB, ev_eqB, ev_is, ev_isnot, ev_ixT, ev_ixS, ev_ixR, ev_ixL, ev_ixK, ev_getL, ev_getM, ev_gL, ev_gM, ev_at0, ev_at1, ev_at2, ev_at3, ev_at4, ev_lenS, ev_lenR, ev_lenT, ev_lenL, ev_lenO, ev_lenD, ev_abs, ev_min2, ev_max2, ev_intI, ev_intB, ev_set, ev_fc, ev_setset, ev_last, ev_appk, ev_app0, ev_setk, ev_set0, ev_assoc, ev_lapp, ev_lappA, ev_sl, ev_nopart, ev_part, ev_ptK, ev_slT, ev_slS, ev_slR, ev_slK, ev_tyN, ev_tyB, ev_tyI, ev_tyS, ev_tyT, ev_tyL, ev_tyR, ev_tyRL, ev_isi, ev_isi1, ev_isi2, ev_isi3, ev_isi4, ev_isi5, ev_isiT, ev_isi2K, ev_isTy, ev_list, ev_listK, ev_tuple, ev_tupK, ev_getST, ev_getSR, ev_getSL, ev_all, ev_allK, ev_eqXI, ev_eqXS, ev_neXI, ev_neXS, ev_neXB, ev_eqXB, ev_eqXR, ev_neXR, ev_nil2, ev_eqK, ev_neK, ev_meth, ev_meth0, ev_mth1, ev_mth2, ev_mth3, ev_append, ev_m0, ev_m0K, ev_str, ev_for, ev_miR1, ev_rg1K, ev_miL, ev_liK, ev_miT, ev_tiK, ev_lc, ev_wipe0, ev_wipeS, ev_yes, ev_lenSet, ev_lenSetK, ev_listR, ev_lrK, ev_put2, ev_p2A, ev_p2K, ev_p2E, ev_put1, ev_pt1, ev_addXI, ev_addXB, ev_addXS, ev_addXT, ev_addXL, ev_subXI, ev_subXB, ev_mulXI, ev_mulXB, ev_mulXL, ev_negXI, ev_negXB, ev_strXI, ev_strXB, ev_mulYI, ev_mulYB, ev_mulYL, ev_mulYT, ev_dnew, ev_dnewT, ev_dgetE, ev_getD, ev_gD, ev_keyI, ev_keyS, ev_dgK, ev_dinE, ev_diK, ev_dputE, ev_dpK, ev_dget2E, ev_isDA, ev_isSome, ev_isNone, ev_dg2K, ev_dpop2E, ev_dp2K, ev_dp3S, ev_dp3N, ev_sortedE, ev_srO1, ev_srO2, ev_gLd, ev_srKS, ev_srKI, ev_gDT, ev_gT, ev_tinE, ev_tiKK, ev_keysA, ev_keysN, ev_keysC, ev_dputTE, ev_dptK, ev_dispE, ev_mpN, ev_mpC, ev_pcK, ev_dsK, ev_dsK2, ev_lc2E, ev_imp, ev_simp, ev_split, ev_splF, ev_splG, ev_fmt, ev_fmtS, ev_fmtI, ev_addK, ev_js0, ev_js1, ev_joined, ev_star, ev_starK, ev_each2, ev_each2K, ev_unl, ev_unlK, ev_intS, ev_strYS, ev_strYI, List.getElem?_cons_zero, List.getElem?_cons_succ, List.set_cons_zero, List.set_cons_succ, List.length_cons, List.length_nil, List.cons_append, List.nil_append, if_true, if_false, Bool.false_eq_true, Bool.true_eq_false, reduceIte, Bool.not_true, Bool.not_false, Bool.and_true, Bool.true_and, Bool.and_false, Bool.false_and, Bool.or_true, Bool.true_or, Bool.or_false, Bool.false_or, decide_eq_true_eq, Nat.reduceAdd, Nat.reduceLeDiff, Nat.zero_add, Int.reduceLT, Int.reduceLE, Int.reduceEq, Int.reduceNeg, Nat.reduceEqDiff, and_self, and_true, true_and, decide_true, decide_false, eq_self, ite_true, ite_false, Int.reduceSub, Int.reduceAdd, Int.cast_ofNat_Int, Int.natCast_add, Int.cast_ofNat_Int, Nat.reduceSub, Nat.add_assoc, String.reduceBEq, String.reduceEq, Bool.or_not_self, beq_self_eq_true, tupleA]

theorem rngA_get {n i : Nat} {x : A} (h : (rngA 0 n)[i]? = some x) : x = .int (0 + (i : Int)) ∧ i < n := by
  unfold rngA at h
  rw [List.getElem?_map] at h
  obtain ⟨j, ej, rfl⟩ := Option.map_eq_some_iff.mp h
  obtain ⟨hj, rfl⟩ := List.getElem?_eq_some_iff.mp ej
  rw [List.length_range] at hj
  exact ⟨by rw [List.getElem_range], hj⟩
theorem rngA_len {n : Nat} : (rngA 0 n).length = n := by
  unfold rngA
  rw [List.length_map, List.length_range]
/-- .. whose items leave nothing -/
theorem lc_P {ok : Sto → Prop} {g : MG} {te : ME} {env : AEnv} {xs : List A} {S : Sto} {Q : A → Sto → Prop} (F : A → A) (hok : ∀ l, ok (S ++ l)) (hl : xs.length < 16777216)
    (step : ∀ x ∈ xs, ∃ e1, g x env = some e1 ∧ ∀ l, okR (te e1 (S ++ l)) fun y s => y = F x ∧ s = S ++ l)
    (h : Q (.ref S.length) (S ++ [AO.lst (xs.map F)])) : okR (lcL S.length ok g mYes te env xs (S ++ [.lst []])) Q := by
  have e := lc_pure (n := S.length) (ok := ok) (g := g) (tt := mYes) (te := te) (env := env) (s := S) (xs := xs) (acc := []) (fun _ => true) F rfl (fun acc => hok _) (fun x hx acc => by
    obtain ⟨e1, h1, h2⟩ := step x hx
    obtain ⟨y, s, e, rfl, rfl⟩ := okR_out (h2 [.lst acc])
    exact ⟨e1, h1, rfl, fun _ => e⟩) (by simpa using hl)
  rw [e, List.filter_eq_self.mpr (fun _ _ => rfl)]
  exact h
theorem okR_eq {α : Type} {r r' : Res α} {Q : α → Sto → Prop} (h : r = r') (k : okR r' Q) : okR r Q := by
  rw [h]
  exact k
theorem okF_eq {r r' : RF} {Q : Fl → Sto → Prop} (h : r = r') (k : okF r' Q) : okF r Q := by
  rw [h]
  exact k

/-! ### draws, by what is asked behind them -/
structure Dr (b : Nat) (S s : Sto) : Prop where
  old : Old b S s
  bag : BagAt s b
theorem Dr.refl {b : Nat} {S : Sto} (h : BagAt S b) : Dr b S S := ⟨Old.refl b S, h⟩
theorem Dr.trans {b : Nat} {S s t : Sto} (h : Dr b S s) (g : Dr b s t) : Dr b S t := ⟨h.old.trans g.old, g.bag⟩
theorem Dr.app {b : Nat} {S s : Sto} (h : Dr b S s) (o : AO) : Dr b S (s ++ [o]) := ⟨h.old.trans (Old.app _ _ _), h.bag.app o⟩
theorem Dr.apps {b : Nat} {S s : Sto} (h : Dr b S s) (l : Sto) : Dr b S (s ++ l) := ⟨h.old.trans (Old.apps _ _ _), h.bag.apps l⟩
theorem Dr.le {b : Nat} {S s : Sto} (h : Dr b S s) : S.length ≤ s.length := h.old.le
theorem Dr.lt {b : Nat} {S s : Sto} (h : Dr b S s) : b < s.length := h.bag.lt
theorem Dr.get {b n : Nat} {S s : Sto} {o : AO} (h : Dr b S s) (e : S[n]? = some o) (nb : n ≠ b) : s[n]? = some o := h.old.get e nb
/-- a new cell is changed -/
theorem Dr.put {b n : Nat} {S s : Sto} (h : Dr b S s) (hn : S.length ≤ n) (nb : n ≠ b) (o : AO) : Dr b S (s.set n o) := ⟨h.old.putNew hn, h.bag.put o nb⟩
theorem take_wp {st : Sto} {b : Nat} {m : Int} (hB : BagAt st b) (hm : 0 < m) (hm2 : m < 2 ^ 200) : okR (m__law_take [.ref b, .int m] st) fun a s => ∃ r, a = .int r ∧ 0 ≤ r ∧ r < m ∧ Dr b st s := by
  obtain ⟨r, s, e, r0, r1, o, B, _⟩ := take_ev hB hm hm2
  exact okR_of ⟨_, _, e, r, rfl, r0, r1, o, B⟩
/-- a comprehension whose items draw -/
theorem lc_draw {ok : Sto → Prop} {g : MG} {te : ME} {env : AEnv} {xs : List A} {S : Sto} {b : Nat} {Q : A → Sto → Prop} (P : A → A → Prop) (hB : BagAt S b) (hok : ∀ s, Dr b S s → ok s) (hl : xs.length < 16777216)
    (step : ∀ x ∈ xs, ∀ s, Dr b S s → ∃ e1, g x env = some e1 ∧ okR (te e1 s) fun y s' => P x y ∧ Dr b s s')
    (hend : ∀ ys s, s[S.length]? = some (.lst ys) → ys.length = xs.length → (∀ (i : Nat) x y, xs[i]? = some x → ys[i]? = some y → P x y) → Dr b S s → Q (.ref S.length) s) :
    okR (lcL S.length ok g mYes te env xs (S ++ [.lst []])) Q := by
  have hb := hB.lt
  refine lcL_wp (j := 0) (acc := []) (fun i acc s => s[S.length]? = some (.lst acc) ∧ acc.length = i ∧ (∀ (k : Nat) x y, xs[k]? = some x → acc[k]? = some y → P x y) ∧ Dr b S s) (fun i acc s h => hok s h.2.2.2) ⟨ev_last, rfl, (fun k x y _ h => by simp at h), (Dr.refl hB).app _⟩ (fun i x acc s hx h => ?_) (fun acc s h => hend acc s h.1 (by have := h.2.1; omega) h.2.2.1 h.2.2.2)
  obtain ⟨h1, h2, h3, h4⟩ := h
  obtain ⟨e1, he, ho⟩ := step x (List.mem_of_getElem? hx) s h4
  refine ⟨e1, he, ?_⟩
  rw [ev_yes, wp_okR, if_pos rfl]
  refine okR_use ho fun y s' h => ?_
  obtain ⟨hp, hd⟩ := h
  have g1 := hd.get h1 (by omega)
  have hlt := (List.getElem?_eq_some_iff.mp hx).1
  have hlt2 := (List.getElem?_eq_some_iff.mp g1).1
  refine ⟨g1, by omega, List.getElem?_set_self hlt2, by rw [List.length_append, List.length_singleton]; omega, fun k x' y' hx' hy' => ?_, (h4.trans hd).put (Nat.le_refl _) (by omega) _⟩
  by_cases hk : k < acc.length
  · rw [List.getElem?_append_left hk] at hy'
    exact h3 k x' y' hx' hy'
  · have hk2 : k = acc.length := by
      have := (List.getElem?_eq_some_iff.mp hy').1
      rw [List.length_append, List.length_singleton] at this
      omega
    subst hk2
    rw [List.getElem?_append_right (Nat.le_refl _), Nat.sub_self] at hy'
    cases hy'
    rw [show acc.length = i by omega] at hx'
    rw [hx] at hx'
    cases hx'
    exact hp
theorem name_wp {st : Sto} {b : Nat} (hB : BagAt st b) : okR (m__law_name [.ref b] st) fun a s => ∃ x, a = .str x ∧ nameP x ∧ Dr b st s := by
  obtain ⟨x, s, e, h, o, B⟩ := name_ev hB
  exact okR_of ⟨_, _, e, x, rfl, h, o, B⟩
/-- names as `_law_names` gives them -/
structure NamesG (ss : List Str) : Prop where
  ne : ss ≠ []
  nm : ∀ x ∈ ss, nameP x ∧ x ≠ "server"
  up : ss.Pairwise fun x y => x.cps.toList < y.cps.toList
theorem names_wp {st : Sto} {b : Nat} {many : Int} (hB : BagAt st b) (h0 : 1 ≤ many) (h1 : many ≤ 20) : okR (m__law_names [.ref b, .int many] st) fun a s => ∃ n ss, a = .ref n ∧ s[n]? = some (.lst (ss.map A.str)) ∧ NamesG ss ∧ (ss.length : Int) ≤ many ∧ st.length ≤ n ∧ Dr b st s := by
  obtain ⟨n, ss, s, e, g, h2, h3, h4, h5, h6, o, B⟩ := names_ev hB (by omega) h1
  exact okR_of ⟨_, _, e, n, ss, rfl, g, ⟨h2, h4, h5⟩, by omega, h6, o, B⟩
theorem terms_wp {st : Sto} {b : Nat} (hB : BagAt st b) : okR (m__law_terms [.ref b] st) fun a s => ∃ l d : Int, a = .tup [.int l, .int d] ∧ 2 ≤ l ∧ l ≤ 1000 ∧ 0 ≤ d ∧ d ≤ 50 ∧ Dr b st s := by
  obtain ⟨l, d, s, e, h1, h2, h3, h4, o, B⟩ := terms_ev hB
  exact okR_of ⟨_, _, e, l, d, rfl, h1, h2, h3, h4, o, B⟩

/-! ### a setup drawn -/
def fileA (q : Str × Int) : A := .tup [.str q.1, .int q.2]
def cliA (q : Str × Int × Int) : A := .tup [.str q.1, .int q.2.1, .int q.2.2]
def setA (fs : List (Str × Int)) (cs : List (Str × Int × Int)) (l d : Int) : A := .tup [.tup (fs.map fileA), .tup (cs.map cliA), .int l, .int d]
structure SetG (fs : List (Str × Int)) (cs : List (Str × Int × Int)) (l d : Int) : Prop where
  fn : NamesG (fs.map (·.1))
  f3 : fs.length ≤ 3
  fp : ∀ q ∈ fs, 1 ≤ q.2 ∧ q.2 ≤ 4
  cn : NamesG (cs.map (·.1))
  c4 : cs.length ≤ 4
  cr : ∀ q ∈ cs, 50 ≤ q.2.1 ∧ q.2.1 ≤ 200 ∧ 0 ≤ q.2.2 ∧ q.2.2 ≤ 99
  l2 : 2 ≤ l
  lm : l ≤ 1000
  d0 : 0 ≤ d
  dm : d ≤ 50
theorem zipRows {P : A → A → Prop} {ss : List Str} {ys : List A} {γ : Type} (mk : Str → γ → A) (h : ∀ x y, P (.str x) y → ∃ c, y = mk x c) (hl : ys.length = ss.length) (hp : ∀ (i : Nat) x y, (ss.map A.str)[i]? = some x → ys[i]? = some y → P x y) : ∃ cs : List (Str × γ), ys = cs.map (fun q => mk q.1 q.2) ∧ cs.map (·.1) = ss ∧ ∀ q ∈ cs, P (.str q.1) (mk q.1 q.2) := by
  induction ss generalizing ys with
  | nil =>
    have : ys = [] := List.length_eq_zero_iff.mp hl
    subst this
    exact ⟨[], rfl, rfl, (fun q hq => by cases hq)⟩
  | cons x ss ih =>
    cases ys with
    | nil => cases hl
    | cons y ys =>
      have p0 := hp 0 (.str x) y rfl rfl
      obtain ⟨c, rfl⟩ := h x y p0
      obtain ⟨cs, e1, e2, e3⟩ := ih (ys := ys) (by simpa using hl) (fun i u v hu hv => hp (i + 1) u v (by simpa using hu) (by simpa using hv))
      refine ⟨(x, c) :: cs, by rw [e1]; rfl, by rw [← e2]; rfl, fun q hq => ?_⟩
      rcases List.mem_cons.mp hq with rfl | hq
      · exact p0
      · exact e3 q hq
def PF (x y : A) : Prop := ∃ n p, x = .str n ∧ y = fileA (n, p) ∧ 1 ≤ p ∧ p ≤ 4
def PC (x y : A) : Prop := ∃ n r a, x = .str n ∧ y = cliA (n, r, a) ∧ 50 ≤ r ∧ r ≤ 200 ∧ 0 ≤ a ∧ a ≤ 99
theorem setup_wp {st : Sto} {b : Nat} (hB : BagAt st b) : okR (m__law_setup [.ref b, .int 1] st) fun a s => ∃ fs cs l d, a = setA fs cs l d ∧ SetG fs cs l d ∧ Dr b st s := by
  rw [st__law_setup]
  unfold b__law_setup
  simp only [wp_okR, wp_okF, wp_fin, wp_next, wp_then, wp_bind, wp_nox, wp_tK, wp_bK, wp_fr, wp_fn, wp_nn, wp_nr, wp_nb, wp_nc, wp_ln, wp_lc, wp_lb, wp_lr, wp_jn, wp_jc, ev_bok, ev_bno, ev_bex, ev_tok, ev_tno, ev_tex, ev_nnx, ev_nrt, ev_nbk, ev_nct, ev_nex, ev_nno, ev_frt, ev_fnx, ev_fex, ev_xok, ev_lsome, ev_lnone, ev_seq, ev_if, ev_ret, ev_retN, ev_drop, ev_nop, ev_brk, ev_cont, ev_asgN, ev_asgT, ev_asgO, ev_mgTup, ev_mgN, ev_mgC, ev_mg0, ev_putL, ev_putO, ev_var, ev_vr, ev_c, ev_op, ev_un, ev_test, ev_tb, ev_notT, ev_andT, ev_orT, ev_ifE, ev_not, ev_nb, ev_and, ev_andK, ev_or, ev_orK, ev_chain, ev_chK, ev_nil, ev_cons, ev_tup, ev_lst, ev_new, ev_call, ev_cb, ev_size, ev_addI, ev_addS, ev_addT, ev_addL, ev_catO, ev_sub, ev_mul, ev_div, ev_mod, ev_p5, ev_p6, ev_p12, ev_p18, ev_p30, ev_neg, ev_ltI, ev_ltS, ev_leI, ev_leS, ev_gt, ev_ge, ev_eqI, ev_eqS, ev_neI, ev_neS, ev_neB, ev_eqB, ev_is, ev_isnot, ev_ixT, ev_ixS, ev_ixR, ev_ixL, ev_ixK, ev_getL, ev_getM, ev_gL, ev_gM, ev_at0, ev_at1, ev_at2, ev_at3, ev_at4, ev_lenS, ev_lenR, ev_lenT, ev_lenL, ev_lenO, ev_lenD, ev_abs, ev_min2, ev_max2, ev_intI, ev_intB, ev_set, ev_fc, ev_setset, ev_last, ev_appk, ev_app0, ev_setk, ev_set0, ev_assoc, ev_lapp, ev_lappA, ev_sl, ev_nopart, ev_part, ev_ptK, ev_slT, ev_slS, ev_slR, ev_slK, ev_tyN, ev_tyB, ev_tyI, ev_tyS, ev_tyT, ev_tyL, ev_tyR, ev_tyRL, ev_isi, ev_isi1, ev_isi2, ev_isi3, ev_isi4, ev_isi5, ev_isiT, ev_isi2K, ev_isTy, ev_list, ev_listK, ev_tuple, ev_tupK, ev_getST, ev_getSR, ev_getSL, ev_all, ev_allK, ev_eqXI, ev_eqXS, ev_neXI, ev_neXS, ev_neXB, ev_eqXB, ev_eqXR, ev_neXR, ev_nil2, ev_eqK, ev_neK, ev_meth, ev_meth0, ev_mth1, ev_mth2, ev_mth3, ev_append, ev_m0, ev_m0K, ev_str, ev_for, ev_miR1, ev_rg1K, ev_miL, ev_liK, ev_miT, ev_tiK, ev_lc, ev_wipe0, ev_wipeS, ev_yes, ev_lenSet, ev_lenSetK, ev_listR, ev_lrK, ev_put2, ev_p2A, ev_p2K, ev_p2E, ev_put1, ev_pt1, ev_addXI, ev_addXB, ev_addXS, ev_addXT, ev_addXL, ev_subXI, ev_subXB, ev_mulXI, ev_mulXB, ev_mulXL, ev_negXI, ev_negXB, ev_strXI, ev_strXB, ev_mulYI, ev_mulYB, ev_mulYL, ev_mulYT, ev_dnew, ev_dnewT, ev_dgetE, ev_getD, ev_gD, ev_keyI, ev_keyS, ev_dgK, ev_dinE, ev_diK, ev_dputE, ev_dpK, ev_dget2E, ev_isDA, ev_isSome, ev_isNone, ev_dg2K, ev_dpop2E, ev_dp2K, ev_dp3S, ev_dp3N, ev_sortedE, ev_srO1, ev_srO2, ev_gLd, ev_srKS, ev_srKI, ev_gDT, ev_gT, ev_tinE, ev_tiKK, ev_keysA, ev_keysN, ev_keysC, ev_dputTE, ev_dptK, ev_dispE, ev_mpN, ev_mpC, ev_pcK, ev_dsK, ev_dsK2, ev_lc2E, ev_imp, ev_simp, ev_split, ev_splF, ev_splG, ev_fmt, ev_fmtS, ev_fmtI, ev_addK, ev_js0, ev_js1, ev_joined, ev_star, ev_starK, ev_each2, ev_each2K, ev_unl, ev_unlK, ev_intS, ev_strYS, ev_strYI, List.getElem?_cons_zero, List.getElem?_cons_succ, List.set_cons_zero, List.set_cons_succ, List.length_cons, List.length_nil, List.cons_append, List.nil_append, if_true, if_false, Bool.false_eq_true, Bool.true_eq_false, reduceIte, Bool.not_true, Bool.not_false, Bool.and_true, Bool.true_and, Bool.and_false, Bool.false_and, Bool.or_true, Bool.true_or, Bool.or_false, Bool.false_or, decide_eq_true_eq, Nat.reduceAdd, Nat.reduceLeDiff, Nat.zero_add, Int.reduceLT, Int.reduceLE, Int.reduceEq, Int.reduceNeg, Nat.reduceEqDiff, and_self, and_true, true_and, decide_true, decide_false, eq_self, ite_true, ite_false, Int.reduceSub, Int.reduceAdd, Int.cast_ofNat_Int, Int.natCast_add, Int.cast_ofNat_Int, Nat.reduceSub, Nat.add_assoc, String.reduceBEq, String.reduceEq, Bool.or_not_self, beq_self_eq_true]
  refine okR_use (terms_wp hB) fun a s1 h => ?_
  obtain ⟨l, d, rfl, l1, l2, d1, d2, D1⟩ := h
  simp only [wp_okR, wp_okF, wp_fin, wp_next, wp_then, wp_bind, wp_nox, wp_tK, wp_bK, wp_fr, wp_fn, wp_nn, wp_nr, wp_nb, wp_nc, wp_ln, wp_lc, wp_lb, wp_lr, wp_jn, wp_jc, ev_bok, ev_bno, ev_bex, ev_tok, ev_tno, ev_tex, ev_nnx, ev_nrt, ev_nbk, ev_nct, ev_nex, ev_nno, ev_frt, ev_fnx, ev_fex, ev_xok, ev_lsome, ev_lnone, ev_seq, ev_if, ev_ret, ev_retN, ev_drop, ev_nop, ev_brk, ev_cont, ev_asgN, ev_asgT, ev_asgO, ev_mgTup, ev_mgN, ev_mgC, ev_mg0, ev_putL, ev_putO, ev_var, ev_vr, ev_c, ev_op, ev_un, ev_test, ev_tb, ev_notT, ev_andT, ev_orT, ev_ifE, ev_not, ev_nb, ev_and, ev_andK, ev_or, ev_orK, ev_chain, ev_chK, ev_nil, ev_cons, ev_tup, ev_lst, ev_new, ev_call, ev_cb, ev_size, ev_addI, ev_addS, ev_addT, ev_addL, ev_catO, ev_sub, ev_mul, ev_div, ev_mod, ev_p5, ev_p6, ev_p12, ev_p18, ev_p30, ev_neg, ev_ltI, ev_ltS, ev_leI, ev_leS, ev_gt, ev_ge, ev_eqI, ev_eqS, ev_neI, ev_neS, ev_neB, ev_eqB, ev_is, ev_isnot, ev_ixT, ev_ixS, ev_ixR, ev_ixL, ev_ixK, ev_getL, ev_getM, ev_gL, ev_gM, ev_at0, ev_at1, ev_at2, ev_at3, ev_at4, ev_lenS, ev_lenR, ev_lenT, ev_lenL, ev_lenO, ev_lenD, ev_abs, ev_min2, ev_max2, ev_intI, ev_intB, ev_set, ev_fc, ev_setset, ev_last, ev_appk, ev_app0, ev_setk, ev_set0, ev_assoc, ev_lapp, ev_lappA, ev_sl, ev_nopart, ev_part, ev_ptK, ev_slT, ev_slS, ev_slR, ev_slK, ev_tyN, ev_tyB, ev_tyI, ev_tyS, ev_tyT, ev_tyL, ev_tyR, ev_tyRL, ev_isi, ev_isi1, ev_isi2, ev_isi3, ev_isi4, ev_isi5, ev_isiT, ev_isi2K, ev_isTy, ev_list, ev_listK, ev_tuple, ev_tupK, ev_getST, ev_getSR, ev_getSL, ev_all, ev_allK, ev_eqXI, ev_eqXS, ev_neXI, ev_neXS, ev_neXB, ev_eqXB, ev_eqXR, ev_neXR, ev_nil2, ev_eqK, ev_neK, ev_meth, ev_meth0, ev_mth1, ev_mth2, ev_mth3, ev_append, ev_m0, ev_m0K, ev_str, ev_for, ev_miR1, ev_rg1K, ev_miL, ev_liK, ev_miT, ev_tiK, ev_lc, ev_wipe0, ev_wipeS, ev_yes, ev_lenSet, ev_lenSetK, ev_listR, ev_lrK, ev_put2, ev_p2A, ev_p2K, ev_p2E, ev_put1, ev_pt1, ev_addXI, ev_addXB, ev_addXS, ev_addXT, ev_addXL, ev_subXI, ev_subXB, ev_mulXI, ev_mulXB, ev_mulXL, ev_negXI, ev_negXB, ev_strXI, ev_strXB, ev_mulYI, ev_mulYB, ev_mulYL, ev_mulYT, ev_dnew, ev_dnewT, ev_dgetE, ev_getD, ev_gD, ev_keyI, ev_keyS, ev_dgK, ev_dinE, ev_diK, ev_dputE, ev_dpK, ev_dget2E, ev_isDA, ev_isSome, ev_isNone, ev_dg2K, ev_dpop2E, ev_dp2K, ev_dp3S, ev_dp3N, ev_sortedE, ev_srO1, ev_srO2, ev_gLd, ev_srKS, ev_srKI, ev_gDT, ev_gT, ev_tinE, ev_tiKK, ev_keysA, ev_keysN, ev_keysC, ev_dputTE, ev_dptK, ev_dispE, ev_mpN, ev_mpC, ev_pcK, ev_dsK, ev_dsK2, ev_lc2E, ev_imp, ev_simp, ev_split, ev_splF, ev_splG, ev_fmt, ev_fmtS, ev_fmtI, ev_addK, ev_js0, ev_js1, ev_joined, ev_star, ev_starK, ev_each2, ev_each2K, ev_unl, ev_unlK, ev_intS, ev_strYS, ev_strYI, List.getElem?_cons_zero, List.getElem?_cons_succ, List.set_cons_zero, List.set_cons_succ, List.length_cons, List.length_nil, List.cons_append, List.nil_append, if_true, if_false, Bool.false_eq_true, Bool.true_eq_false, reduceIte, Bool.not_true, Bool.not_false, Bool.and_true, Bool.true_and, Bool.and_false, Bool.false_and, Bool.or_true, Bool.true_or, Bool.or_false, Bool.false_or, decide_eq_true_eq, Nat.reduceAdd, Nat.reduceLeDiff, Nat.zero_add, Int.reduceLT, Int.reduceLE, Int.reduceEq, Int.reduceNeg, Nat.reduceEqDiff, and_self, and_true, true_and, decide_true, decide_false, eq_self, ite_true, ite_false, Int.reduceSub, Int.reduceAdd, Int.cast_ofNat_Int, Int.natCast_add, Int.cast_ofNat_Int, Nat.reduceSub, Nat.add_assoc, String.reduceBEq, String.reduceEq, Bool.or_not_self, beq_self_eq_true]
  refine okR_use (take_wp (D1.bag.app _) (by decide) (by decide)) fun a s2 h => ?_
  obtain ⟨r, rfl, r0, r1, D2⟩ := h
  have b1 := D1.lt
  have g2 : s2[s1.length]? = some (.lst ([0, 0, 1, 2].map A.int)) := D2.get ev_last (by omega)
  obtain ⟨m, mm, gm, _⟩ := pickI (ns := [0, 0, 1, 2]) r0 r1
  have hm : 0 ≤ m ∧ m ≤ 2 := by
    simp only [List.mem_cons, List.not_mem_nil, or_false] at mm
    omega
  simp only [List.map_cons, List.map_nil] at g2 gm
  simp only [wp_okR, wp_okF, wp_fin, wp_next, wp_then, wp_bind, wp_nox, wp_tK, wp_bK, wp_fr, wp_fn, wp_nn, wp_nr, wp_nb, wp_nc, wp_ln, wp_lc, wp_lb, wp_lr, wp_jn, wp_jc, ev_bok, ev_bno, ev_bex, ev_tok, ev_tno, ev_tex, ev_nnx, ev_nrt, ev_nbk, ev_nct, ev_nex, ev_nno, ev_frt, ev_fnx, ev_fex, ev_xok, ev_lsome, ev_lnone, ev_seq, ev_if, ev_ret, ev_retN, ev_drop, ev_nop, ev_brk, ev_cont, ev_asgN, ev_asgT, ev_asgO, ev_mgTup, ev_mgN, ev_mgC, ev_mg0, ev_putL, ev_putO, ev_var, ev_vr, ev_c, ev_op, ev_un, ev_test, ev_tb, ev_notT, ev_andT, ev_orT, ev_ifE, ev_not, ev_nb, ev_and, ev_andK, ev_or, ev_orK, ev_chain, ev_chK, ev_nil, ev_cons, ev_tup, ev_lst, ev_new, ev_call, ev_cb, ev_size, ev_addI, ev_addS, ev_addT, ev_addL, ev_catO, ev_sub, ev_mul, ev_div, ev_mod, ev_p5, ev_p6, ev_p12, ev_p18, ev_p30, ev_neg, ev_ltI, ev_ltS, ev_leI, ev_leS, ev_gt, ev_ge, ev_eqI, ev_eqS, ev_neI, ev_neS, ev_neB, ev_eqB, ev_is, ev_isnot, ev_ixT, ev_ixS, ev_ixR, ev_ixL, ev_ixK, ev_getL, ev_getM, ev_gL, ev_gM, ev_at0, ev_at1, ev_at2, ev_at3, ev_at4, ev_lenS, ev_lenR, ev_lenT, ev_lenL, ev_lenO, ev_lenD, ev_abs, ev_min2, ev_max2, ev_intI, ev_intB, ev_set, ev_fc, ev_setset, ev_last, ev_appk, ev_app0, ev_setk, ev_set0, ev_assoc, ev_lapp, ev_lappA, ev_sl, ev_nopart, ev_part, ev_ptK, ev_slT, ev_slS, ev_slR, ev_slK, ev_tyN, ev_tyB, ev_tyI, ev_tyS, ev_tyT, ev_tyL, ev_tyR, ev_tyRL, ev_isi, ev_isi1, ev_isi2, ev_isi3, ev_isi4, ev_isi5, ev_isiT, ev_isi2K, ev_isTy, ev_list, ev_listK, ev_tuple, ev_tupK, ev_getST, ev_getSR, ev_getSL, ev_all, ev_allK, ev_eqXI, ev_eqXS, ev_neXI, ev_neXS, ev_neXB, ev_eqXB, ev_eqXR, ev_neXR, ev_nil2, ev_eqK, ev_neK, ev_meth, ev_meth0, ev_mth1, ev_mth2, ev_mth3, ev_append, ev_m0, ev_m0K, ev_str, ev_for, ev_miR1, ev_rg1K, ev_miL, ev_liK, ev_miT, ev_tiK, ev_lc, ev_wipe0, ev_wipeS, ev_yes, ev_lenSet, ev_lenSetK, ev_listR, ev_lrK, ev_put2, ev_p2A, ev_p2K, ev_p2E, ev_put1, ev_pt1, ev_addXI, ev_addXB, ev_addXS, ev_addXT, ev_addXL, ev_subXI, ev_subXB, ev_mulXI, ev_mulXB, ev_mulXL, ev_negXI, ev_negXB, ev_strXI, ev_strXB, ev_mulYI, ev_mulYB, ev_mulYL, ev_mulYT, ev_dnew, ev_dnewT, ev_dgetE, ev_getD, ev_gD, ev_keyI, ev_keyS, ev_dgK, ev_dinE, ev_diK, ev_dputE, ev_dpK, ev_dget2E, ev_isDA, ev_isSome, ev_isNone, ev_dg2K, ev_dpop2E, ev_dp2K, ev_dp3S, ev_dp3N, ev_sortedE, ev_srO1, ev_srO2, ev_gLd, ev_srKS, ev_srKI, ev_gDT, ev_gT, ev_tinE, ev_tiKK, ev_keysA, ev_keysN, ev_keysC, ev_dputTE, ev_dptK, ev_dispE, ev_mpN, ev_mpC, ev_pcK, ev_dsK, ev_dsK2, ev_lc2E, ev_imp, ev_simp, ev_split, ev_splF, ev_splG, ev_fmt, ev_fmtS, ev_fmtI, ev_addK, ev_js0, ev_js1, ev_joined, ev_star, ev_starK, ev_each2, ev_each2K, ev_unl, ev_unlK, ev_intS, ev_strYS, ev_strYI, List.getElem?_cons_zero, List.getElem?_cons_succ, List.set_cons_zero, List.set_cons_succ, List.length_cons, List.length_nil, List.cons_append, List.nil_append, if_true, if_false, Bool.false_eq_true, Bool.true_eq_false, reduceIte, Bool.not_true, Bool.not_false, Bool.and_true, Bool.true_and, Bool.and_false, Bool.false_and, Bool.or_true, Bool.true_or, Bool.or_false, Bool.false_or, decide_eq_true_eq, Nat.reduceAdd, Nat.reduceLeDiff, Nat.zero_add, Int.reduceLT, Int.reduceLE, Int.reduceEq, Int.reduceNeg, Nat.reduceEqDiff, and_self, and_true, true_and, decide_true, decide_false, eq_self, ite_true, ite_false, Int.reduceSub, Int.reduceAdd, Int.cast_ofNat_Int, Int.natCast_add, Int.cast_ofNat_Int, Nat.reduceSub, Nat.add_assoc, String.reduceBEq, String.reduceEq, Bool.or_not_self, beq_self_eq_true, g2, gm]
  refine okR_use (names_wp D2.bag (by omega) (by omega)) fun a s3 h => ?_
  obtain ⟨n, ss, rfl, g3, N3, n3, le3, D3⟩ := h
  simp only [wp_okR, wp_okF, wp_fin, wp_next, wp_then, wp_bind, wp_nox, wp_tK, wp_bK, wp_fr, wp_fn, wp_nn, wp_nr, wp_nb, wp_nc, wp_ln, wp_lc, wp_lb, wp_lr, wp_jn, wp_jc, ev_bok, ev_bno, ev_bex, ev_tok, ev_tno, ev_tex, ev_nnx, ev_nrt, ev_nbk, ev_nct, ev_nex, ev_nno, ev_frt, ev_fnx, ev_fex, ev_xok, ev_lsome, ev_lnone, ev_seq, ev_if, ev_ret, ev_retN, ev_drop, ev_nop, ev_brk, ev_cont, ev_asgN, ev_asgT, ev_asgO, ev_mgTup, ev_mgN, ev_mgC, ev_mg0, ev_putL, ev_putO, ev_var, ev_vr, ev_c, ev_op, ev_un, ev_test, ev_tb, ev_notT, ev_andT, ev_orT, ev_ifE, ev_not, ev_nb, ev_and, ev_andK, ev_or, ev_orK, ev_chain, ev_chK, ev_nil, ev_cons, ev_tup, ev_lst, ev_new, ev_call, ev_cb, ev_size, ev_addI, ev_addS, ev_addT, ev_addL, ev_catO, ev_sub, ev_mul, ev_div, ev_mod, ev_p5, ev_p6, ev_p12, ev_p18, ev_p30, ev_neg, ev_ltI, ev_ltS, ev_leI, ev_leS, ev_gt, ev_ge, ev_eqI, ev_eqS, ev_neI, ev_neS, ev_neB, ev_eqB, ev_is, ev_isnot, ev_ixT, ev_ixS, ev_ixR, ev_ixL, ev_ixK, ev_getL, ev_getM, ev_gL, ev_gM, ev_at0, ev_at1, ev_at2, ev_at3, ev_at4, ev_lenS, ev_lenR, ev_lenT, ev_lenL, ev_lenO, ev_lenD, ev_abs, ev_min2, ev_max2, ev_intI, ev_intB, ev_set, ev_fc, ev_setset, ev_last, ev_appk, ev_app0, ev_setk, ev_set0, ev_assoc, ev_lapp, ev_lappA, ev_sl, ev_nopart, ev_part, ev_ptK, ev_slT, ev_slS, ev_slR, ev_slK, ev_tyN, ev_tyB, ev_tyI, ev_tyS, ev_tyT, ev_tyL, ev_tyR, ev_tyRL, ev_isi, ev_isi1, ev_isi2, ev_isi3, ev_isi4, ev_isi5, ev_isiT, ev_isi2K, ev_isTy, ev_list, ev_listK, ev_tuple, ev_tupK, ev_getST, ev_getSR, ev_getSL, ev_all, ev_allK, ev_eqXI, ev_eqXS, ev_neXI, ev_neXS, ev_neXB, ev_eqXB, ev_eqXR, ev_neXR, ev_nil2, ev_eqK, ev_neK, ev_meth, ev_meth0, ev_mth1, ev_mth2, ev_mth3, ev_append, ev_m0, ev_m0K, ev_str, ev_for, ev_miR1, ev_rg1K, ev_miL, ev_liK, ev_miT, ev_tiK, ev_lc, ev_wipe0, ev_wipeS, ev_yes, ev_lenSet, ev_lenSetK, ev_listR, ev_lrK, ev_put2, ev_p2A, ev_p2K, ev_p2E, ev_put1, ev_pt1, ev_addXI, ev_addXB, ev_addXS, ev_addXT, ev_addXL, ev_subXI, ev_subXB, ev_mulXI, ev_mulXB, ev_mulXL, ev_negXI, ev_negXB, ev_strXI, ev_strXB, ev_mulYI, ev_mulYB, ev_mulYL, ev_mulYT, ev_dnew, ev_dnewT, ev_dgetE, ev_getD, ev_gD, ev_keyI, ev_keyS, ev_dgK, ev_dinE, ev_diK, ev_dputE, ev_dpK, ev_dget2E, ev_isDA, ev_isSome, ev_isNone, ev_dg2K, ev_dpop2E, ev_dp2K, ev_dp3S, ev_dp3N, ev_sortedE, ev_srO1, ev_srO2, ev_gLd, ev_srKS, ev_srKI, ev_gDT, ev_gT, ev_tinE, ev_tiKK, ev_keysA, ev_keysN, ev_keysC, ev_dputTE, ev_dptK, ev_dispE, ev_mpN, ev_mpC, ev_pcK, ev_dsK, ev_dsK2, ev_lc2E, ev_imp, ev_simp, ev_split, ev_splF, ev_splG, ev_fmt, ev_fmtS, ev_fmtI, ev_addK, ev_js0, ev_js1, ev_joined, ev_star, ev_starK, ev_each2, ev_each2K, ev_unl, ev_unlK, ev_intS, ev_strYS, ev_strYI, List.getElem?_cons_zero, List.getElem?_cons_succ, List.set_cons_zero, List.set_cons_succ, List.length_cons, List.length_nil, List.cons_append, List.nil_append, if_true, if_false, Bool.false_eq_true, Bool.true_eq_false, reduceIte, Bool.not_true, Bool.not_false, Bool.and_true, Bool.true_and, Bool.and_false, Bool.false_and, Bool.or_true, Bool.true_or, Bool.or_false, Bool.false_or, decide_eq_true_eq, Nat.reduceAdd, Nat.reduceLeDiff, Nat.zero_add, Int.reduceLT, Int.reduceLE, Int.reduceEq, Int.reduceNeg, Nat.reduceEqDiff, and_self, and_true, true_and, decide_true, decide_false, eq_self, ite_true, ite_false, Int.reduceSub, Int.reduceAdd, Int.cast_ofNat_Int, Int.natCast_add, Int.cast_ofNat_Int, Nat.reduceSub, Nat.add_assoc, String.reduceBEq, String.reduceEq, Bool.or_not_self, beq_self_eq_true, g3]
  have b3 := D3.lt
  have b2 := D2.lt
  refine lc_draw PF D3.bag (fun s h => ?_) (by rw [List.length_map]; omega) (fun x hx s h => ?_) (fun ys s4 h1 h2 h3 D4 => ?_)
  · show getL s (.ref n) = _
    rw [ev_getL, h.get g3 (by omega)]
    rfl
  · obtain ⟨y, _, rfl⟩ := List.mem_map.mp hx
    refine ⟨_, rfl, ?_⟩
    simp only [wp_okR, wp_okF, wp_fin, wp_next, wp_then, wp_bind, wp_nox, wp_tK, wp_bK, wp_fr, wp_fn, wp_nn, wp_nr, wp_nb, wp_nc, wp_ln, wp_lc, wp_lb, wp_lr, wp_jn, wp_jc, ev_bok, ev_bno, ev_bex, ev_tok, ev_tno, ev_tex, ev_nnx, ev_nrt, ev_nbk, ev_nct, ev_nex, ev_nno, ev_frt, ev_fnx, ev_fex, ev_xok, ev_lsome, ev_lnone, ev_seq, ev_if, ev_ret, ev_retN, ev_drop, ev_nop, ev_brk, ev_cont, ev_asgN, ev_asgT, ev_asgO, ev_mgTup, ev_mgN, ev_mgC, ev_mg0, ev_putL, ev_putO, ev_var, ev_vr, ev_c, ev_op, ev_un, ev_test, ev_tb, ev_notT, ev_andT, ev_orT, ev_ifE, ev_not, ev_nb, ev_and, ev_andK, ev_or, ev_orK, ev_chain, ev_chK, ev_nil, ev_cons, ev_tup, ev_lst, ev_new, ev_call, ev_cb, ev_size, ev_addI, ev_addS, ev_addT, ev_addL, ev_catO, ev_sub, ev_mul, ev_div, ev_mod, ev_p5, ev_p6, ev_p12, ev_p18, ev_p30, ev_neg, ev_ltI, ev_ltS, ev_leI, ev_leS, ev_gt, ev_ge, ev_eqI, ev_eqS, ev_neI, ev_neS, ev_neB, ev_eqB, ev_is, ev_isnot, ev_ixT, ev_ixS, ev_ixR, ev_ixL, ev_ixK, ev_getL, ev_getM, ev_gL, ev_gM, ev_at0, ev_at1, ev_at2, ev_at3, ev_at4, ev_lenS, ev_lenR, ev_lenT, ev_lenL, ev_lenO, ev_lenD, ev_abs, ev_min2, ev_max2, ev_intI, ev_intB, ev_set, ev_fc, ev_setset, ev_last, ev_appk, ev_app0, ev_setk, ev_set0, ev_assoc, ev_lapp, ev_lappA, ev_sl, ev_nopart, ev_part, ev_ptK, ev_slT, ev_slS, ev_slR, ev_slK, ev_tyN, ev_tyB, ev_tyI, ev_tyS, ev_tyT, ev_tyL, ev_tyR, ev_tyRL, ev_isi, ev_isi1, ev_isi2, ev_isi3, ev_isi4, ev_isi5, ev_isiT, ev_isi2K, ev_isTy, ev_list, ev_listK, ev_tuple, ev_tupK, ev_getST, ev_getSR, ev_getSL, ev_all, ev_allK, ev_eqXI, ev_eqXS, ev_neXI, ev_neXS, ev_neXB, ev_eqXB, ev_eqXR, ev_neXR, ev_nil2, ev_eqK, ev_neK, ev_meth, ev_meth0, ev_mth1, ev_mth2, ev_mth3, ev_append, ev_m0, ev_m0K, ev_str, ev_for, ev_miR1, ev_rg1K, ev_miL, ev_liK, ev_miT, ev_tiK, ev_lc, ev_wipe0, ev_wipeS, ev_yes, ev_lenSet, ev_lenSetK, ev_listR, ev_lrK, ev_put2, ev_p2A, ev_p2K, ev_p2E, ev_put1, ev_pt1, ev_addXI, ev_addXB, ev_addXS, ev_addXT, ev_addXL, ev_subXI, ev_subXB, ev_mulXI, ev_mulXB, ev_mulXL, ev_negXI, ev_negXB, ev_strXI, ev_strXB, ev_mulYI, ev_mulYB, ev_mulYL, ev_mulYT, ev_dnew, ev_dnewT, ev_dgetE, ev_getD, ev_gD, ev_keyI, ev_keyS, ev_dgK, ev_dinE, ev_diK, ev_dputE, ev_dpK, ev_dget2E, ev_isDA, ev_isSome, ev_isNone, ev_dg2K, ev_dpop2E, ev_dp2K, ev_dp3S, ev_dp3N, ev_sortedE, ev_srO1, ev_srO2, ev_gLd, ev_srKS, ev_srKI, ev_gDT, ev_gT, ev_tinE, ev_tiKK, ev_keysA, ev_keysN, ev_keysC, ev_dputTE, ev_dptK, ev_dispE, ev_mpN, ev_mpC, ev_pcK, ev_dsK, ev_dsK2, ev_lc2E, ev_imp, ev_simp, ev_split, ev_splF, ev_splG, ev_fmt, ev_fmtS, ev_fmtI, ev_addK, ev_js0, ev_js1, ev_joined, ev_star, ev_starK, ev_each2, ev_each2K, ev_unl, ev_unlK, ev_intS, ev_strYS, ev_strYI, List.getElem?_cons_zero, List.getElem?_cons_succ, List.set_cons_zero, List.set_cons_succ, List.length_cons, List.length_nil, List.cons_append, List.nil_append, if_true, if_false, Bool.false_eq_true, Bool.true_eq_false, reduceIte, Bool.not_true, Bool.not_false, Bool.and_true, Bool.true_and, Bool.and_false, Bool.false_and, Bool.or_true, Bool.true_or, Bool.or_false, Bool.false_or, decide_eq_true_eq, Nat.reduceAdd, Nat.reduceLeDiff, Nat.zero_add, Int.reduceLT, Int.reduceLE, Int.reduceEq, Int.reduceNeg, Nat.reduceEqDiff, and_self, and_true, true_and, decide_true, decide_false, eq_self, ite_true, ite_false, Int.reduceSub, Int.reduceAdd, Int.cast_ofNat_Int, Int.natCast_add, Int.cast_ofNat_Int, Nat.reduceSub, Nat.add_assoc, String.reduceBEq, String.reduceEq, Bool.or_not_self, beq_self_eq_true]
    refine okR_use (take_wp h.bag (by decide) (by decide)) fun a s' h' => ?_
    obtain ⟨p, rfl, p0, p1, D'⟩ := h'
    simp only [wp_okR, wp_okF, wp_fin, wp_next, wp_then, wp_bind, wp_nox, wp_tK, wp_bK, wp_fr, wp_fn, wp_nn, wp_nr, wp_nb, wp_nc, wp_ln, wp_lc, wp_lb, wp_lr, wp_jn, wp_jc, ev_bok, ev_bno, ev_bex, ev_tok, ev_tno, ev_tex, ev_nnx, ev_nrt, ev_nbk, ev_nct, ev_nex, ev_nno, ev_frt, ev_fnx, ev_fex, ev_xok, ev_lsome, ev_lnone, ev_seq, ev_if, ev_ret, ev_retN, ev_drop, ev_nop, ev_brk, ev_cont, ev_asgN, ev_asgT, ev_asgO, ev_mgTup, ev_mgN, ev_mgC, ev_mg0, ev_putL, ev_putO, ev_var, ev_vr, ev_c, ev_op, ev_un, ev_test, ev_tb, ev_notT, ev_andT, ev_orT, ev_ifE, ev_not, ev_nb, ev_and, ev_andK, ev_or, ev_orK, ev_chain, ev_chK, ev_nil, ev_cons, ev_tup, ev_lst, ev_new, ev_call, ev_cb, ev_size, ev_addI, ev_addS, ev_addT, ev_addL, ev_catO, ev_sub, ev_mul, ev_div, ev_mod, ev_p5, ev_p6, ev_p12, ev_p18, ev_p30, ev_neg, ev_ltI, ev_ltS, ev_leI, ev_leS, ev_gt, ev_ge, ev_eqI, ev_eqS, ev_neI, ev_neS, ev_neB, ev_eqB, ev_is, ev_isnot, ev_ixT, ev_ixS, ev_ixR, ev_ixL, ev_ixK, ev_getL, ev_getM, ev_gL, ev_gM, ev_at0, ev_at1, ev_at2, ev_at3, ev_at4, ev_lenS, ev_lenR, ev_lenT, ev_lenL, ev_lenO, ev_lenD, ev_abs, ev_min2, ev_max2, ev_intI, ev_intB, ev_set, ev_fc, ev_setset, ev_last, ev_appk, ev_app0, ev_setk, ev_set0, ev_assoc, ev_lapp, ev_lappA, ev_sl, ev_nopart, ev_part, ev_ptK, ev_slT, ev_slS, ev_slR, ev_slK, ev_tyN, ev_tyB, ev_tyI, ev_tyS, ev_tyT, ev_tyL, ev_tyR, ev_tyRL, ev_isi, ev_isi1, ev_isi2, ev_isi3, ev_isi4, ev_isi5, ev_isiT, ev_isi2K, ev_isTy, ev_list, ev_listK, ev_tuple, ev_tupK, ev_getST, ev_getSR, ev_getSL, ev_all, ev_allK, ev_eqXI, ev_eqXS, ev_neXI, ev_neXS, ev_neXB, ev_eqXB, ev_eqXR, ev_neXR, ev_nil2, ev_eqK, ev_neK, ev_meth, ev_meth0, ev_mth1, ev_mth2, ev_mth3, ev_append, ev_m0, ev_m0K, ev_str, ev_for, ev_miR1, ev_rg1K, ev_miL, ev_liK, ev_miT, ev_tiK, ev_lc, ev_wipe0, ev_wipeS, ev_yes, ev_lenSet, ev_lenSetK, ev_listR, ev_lrK, ev_put2, ev_p2A, ev_p2K, ev_p2E, ev_put1, ev_pt1, ev_addXI, ev_addXB, ev_addXS, ev_addXT, ev_addXL, ev_subXI, ev_subXB, ev_mulXI, ev_mulXB, ev_mulXL, ev_negXI, ev_negXB, ev_strXI, ev_strXB, ev_mulYI, ev_mulYB, ev_mulYL, ev_mulYT, ev_dnew, ev_dnewT, ev_dgetE, ev_getD, ev_gD, ev_keyI, ev_keyS, ev_dgK, ev_dinE, ev_diK, ev_dputE, ev_dpK, ev_dget2E, ev_isDA, ev_isSome, ev_isNone, ev_dg2K, ev_dpop2E, ev_dp2K, ev_dp3S, ev_dp3N, ev_sortedE, ev_srO1, ev_srO2, ev_gLd, ev_srKS, ev_srKI, ev_gDT, ev_gT, ev_tinE, ev_tiKK, ev_keysA, ev_keysN, ev_keysC, ev_dputTE, ev_dptK, ev_dispE, ev_mpN, ev_mpC, ev_pcK, ev_dsK, ev_dsK2, ev_lc2E, ev_imp, ev_simp, ev_split, ev_splF, ev_splG, ev_fmt, ev_fmtS, ev_fmtI, ev_addK, ev_js0, ev_js1, ev_joined, ev_star, ev_starK, ev_each2, ev_each2K, ev_unl, ev_unlK, ev_intS, ev_strYS, ev_strYI, List.getElem?_cons_zero, List.getElem?_cons_succ, List.set_cons_zero, List.set_cons_succ, List.length_cons, List.length_nil, List.cons_append, List.nil_append, if_true, if_false, Bool.false_eq_true, Bool.true_eq_false, reduceIte, Bool.not_true, Bool.not_false, Bool.and_true, Bool.true_and, Bool.and_false, Bool.false_and, Bool.or_true, Bool.true_or, Bool.or_false, Bool.false_or, decide_eq_true_eq, Nat.reduceAdd, Nat.reduceLeDiff, Nat.zero_add, Int.reduceLT, Int.reduceLE, Int.reduceEq, Int.reduceNeg, Nat.reduceEqDiff, and_self, and_true, true_and, decide_true, decide_false, eq_self, ite_true, ite_false, Int.reduceSub, Int.reduceAdd, Int.cast_ofNat_Int, Int.natCast_add, Int.cast_ofNat_Int, Nat.reduceSub, Nat.add_assoc, String.reduceBEq, String.reduceEq, Bool.or_not_self, beq_self_eq_true]
    exact ⟨⟨y, 1 + p, rfl, rfl, by omega, by omega⟩, D'⟩
  · obtain ⟨fs, rfl, ef, pf⟩ := zipRows (γ := Int) (fun n p => fileA (n, p)) (fun x y h => by obtain ⟨n, p, e1, e2, _⟩ := h; cases e1; exact ⟨p, e2⟩) (by rw [h2, List.length_map]) h3
    have at50 : atI [A.int (100 - d), .int 50] 1 = some (.int 50) := rfl
    simp only [wp_okR, wp_okF, wp_fin, wp_next, wp_then, wp_bind, wp_nox, wp_tK, wp_bK, wp_fr, wp_fn, wp_nn, wp_nr, wp_nb, wp_nc, wp_ln, wp_lc, wp_lb, wp_lr, wp_jn, wp_jc, ev_bok, ev_bno, ev_bex, ev_tok, ev_tno, ev_tex, ev_nnx, ev_nrt, ev_nbk, ev_nct, ev_nex, ev_nno, ev_frt, ev_fnx, ev_fex, ev_xok, ev_lsome, ev_lnone, ev_seq, ev_if, ev_ret, ev_retN, ev_drop, ev_nop, ev_brk, ev_cont, ev_asgN, ev_asgT, ev_asgO, ev_mgTup, ev_mgN, ev_mgC, ev_mg0, ev_putL, ev_putO, ev_var, ev_vr, ev_c, ev_op, ev_un, ev_test, ev_tb, ev_notT, ev_andT, ev_orT, ev_ifE, ev_not, ev_nb, ev_and, ev_andK, ev_or, ev_orK, ev_chain, ev_chK, ev_nil, ev_cons, ev_tup, ev_lst, ev_new, ev_call, ev_cb, ev_size, ev_addI, ev_addS, ev_addT, ev_addL, ev_catO, ev_sub, ev_mul, ev_div, ev_mod, ev_p5, ev_p6, ev_p12, ev_p18, ev_p30, ev_neg, ev_ltI, ev_ltS, ev_leI, ev_leS, ev_gt, ev_ge, ev_eqI, ev_eqS, ev_neI, ev_neS, ev_neB, ev_eqB, ev_is, ev_isnot, ev_ixT, ev_ixS, ev_ixR, ev_ixL, ev_ixK, ev_getL, ev_getM, ev_gL, ev_gM, ev_at0, ev_at1, ev_at2, ev_at3, ev_at4, ev_lenS, ev_lenR, ev_lenT, ev_lenL, ev_lenO, ev_lenD, ev_abs, ev_min2, ev_max2, ev_intI, ev_intB, ev_set, ev_fc, ev_setset, ev_last, ev_appk, ev_app0, ev_setk, ev_set0, ev_assoc, ev_lapp, ev_lappA, ev_sl, ev_nopart, ev_part, ev_ptK, ev_slT, ev_slS, ev_slR, ev_slK, ev_tyN, ev_tyB, ev_tyI, ev_tyS, ev_tyT, ev_tyL, ev_tyR, ev_tyRL, ev_isi, ev_isi1, ev_isi2, ev_isi3, ev_isi4, ev_isi5, ev_isiT, ev_isi2K, ev_isTy, ev_list, ev_listK, ev_tuple, ev_tupK, ev_getST, ev_getSR, ev_getSL, ev_all, ev_allK, ev_eqXI, ev_eqXS, ev_neXI, ev_neXS, ev_neXB, ev_eqXB, ev_eqXR, ev_neXR, ev_nil2, ev_eqK, ev_neK, ev_meth, ev_meth0, ev_mth1, ev_mth2, ev_mth3, ev_append, ev_m0, ev_m0K, ev_str, ev_for, ev_miR1, ev_rg1K, ev_miL, ev_liK, ev_miT, ev_tiK, ev_lc, ev_wipe0, ev_wipeS, ev_yes, ev_lenSet, ev_lenSetK, ev_listR, ev_lrK, ev_put2, ev_p2A, ev_p2K, ev_p2E, ev_put1, ev_pt1, ev_addXI, ev_addXB, ev_addXS, ev_addXT, ev_addXL, ev_subXI, ev_subXB, ev_mulXI, ev_mulXB, ev_mulXL, ev_negXI, ev_negXB, ev_strXI, ev_strXB, ev_mulYI, ev_mulYB, ev_mulYL, ev_mulYT, ev_dnew, ev_dnewT, ev_dgetE, ev_getD, ev_gD, ev_keyI, ev_keyS, ev_dgK, ev_dinE, ev_diK, ev_dputE, ev_dpK, ev_dget2E, ev_isDA, ev_isSome, ev_isNone, ev_dg2K, ev_dpop2E, ev_dp2K, ev_dp3S, ev_dp3N, ev_sortedE, ev_srO1, ev_srO2, ev_gLd, ev_srKS, ev_srKI, ev_gDT, ev_gT, ev_tinE, ev_tiKK, ev_keysA, ev_keysN, ev_keysC, ev_dputTE, ev_dptK, ev_dispE, ev_mpN, ev_mpC, ev_pcK, ev_dsK, ev_dsK2, ev_lc2E, ev_imp, ev_simp, ev_split, ev_splF, ev_splG, ev_fmt, ev_fmtS, ev_fmtI, ev_addK, ev_js0, ev_js1, ev_joined, ev_star, ev_starK, ev_each2, ev_each2K, ev_unl, ev_unlK, ev_intS, ev_strYS, ev_strYI, List.getElem?_cons_zero, List.getElem?_cons_succ, List.set_cons_zero, List.set_cons_succ, List.length_cons, List.length_nil, List.cons_append, List.nil_append, if_true, if_false, Bool.false_eq_true, Bool.true_eq_false, reduceIte, Bool.not_true, Bool.not_false, Bool.and_true, Bool.true_and, Bool.and_false, Bool.false_and, Bool.or_true, Bool.true_or, Bool.or_false, Bool.false_or, decide_eq_true_eq, Nat.reduceAdd, Nat.reduceLeDiff, Nat.zero_add, Int.reduceLT, Int.reduceLE, Int.reduceEq, Int.reduceNeg, Nat.reduceEqDiff, and_self, and_true, true_and, decide_true, decide_false, eq_self, ite_true, ite_false, Int.reduceSub, Int.reduceAdd, Int.cast_ofNat_Int, Int.natCast_add, Int.cast_ofNat_Int, Nat.reduceSub, Nat.add_assoc, String.reduceBEq, String.reduceEq, Bool.or_not_self, beq_self_eq_true, at50]
    have b4 := D4.lt
    refine okR_use (take_wp (D4.bag.apps _) (by decide) (by decide)) fun a s6 h => ?_
    obtain ⟨r', rfl, r0', r1', D6⟩ := h
    have g6 : s6[s4.length + 2]? = some (.lst ([1, 2, 2, 3, 3, 0].map A.int)) := D6.get ev_appk (by omega)
    have k6 : s6[s4.length + 1]? = some (.lst []) := D6.get ev_appk (by omega)
    have D6' : Dr b s4 s6 := ((Dr.refl D4.bag).apps _).trans D6
    obtain ⟨m', mm', gm', _⟩ := pickI (ns := [1, 2, 2, 3, 3, 0]) r0' r1'
    have hm' : 0 ≤ m' ∧ m' ≤ 3 := by
      simp only [List.mem_cons, List.not_mem_nil, or_false] at mm'
      omega
    simp only [List.map_cons, List.map_nil] at g6 gm'
    simp only [wp_okR, wp_okF, wp_fin, wp_next, wp_then, wp_bind, wp_nox, wp_tK, wp_bK, wp_fr, wp_fn, wp_nn, wp_nr, wp_nb, wp_nc, wp_ln, wp_lc, wp_lb, wp_lr, wp_jn, wp_jc, ev_bok, ev_bno, ev_bex, ev_tok, ev_tno, ev_tex, ev_nnx, ev_nrt, ev_nbk, ev_nct, ev_nex, ev_nno, ev_frt, ev_fnx, ev_fex, ev_xok, ev_lsome, ev_lnone, ev_seq, ev_if, ev_ret, ev_retN, ev_drop, ev_nop, ev_brk, ev_cont, ev_asgN, ev_asgT, ev_asgO, ev_mgTup, ev_mgN, ev_mgC, ev_mg0, ev_putL, ev_putO, ev_var, ev_vr, ev_c, ev_op, ev_un, ev_test, ev_tb, ev_notT, ev_andT, ev_orT, ev_ifE, ev_not, ev_nb, ev_and, ev_andK, ev_or, ev_orK, ev_chain, ev_chK, ev_nil, ev_cons, ev_tup, ev_lst, ev_new, ev_call, ev_cb, ev_size, ev_addI, ev_addS, ev_addT, ev_addL, ev_catO, ev_sub, ev_mul, ev_div, ev_mod, ev_p5, ev_p6, ev_p12, ev_p18, ev_p30, ev_neg, ev_ltI, ev_ltS, ev_leI, ev_leS, ev_gt, ev_ge, ev_eqI, ev_eqS, ev_neI, ev_neS, ev_neB, ev_eqB, ev_is, ev_isnot, ev_ixT, ev_ixS, ev_ixR, ev_ixL, ev_ixK, ev_getL, ev_getM, ev_gL, ev_gM, ev_at0, ev_at1, ev_at2, ev_at3, ev_at4, ev_lenS, ev_lenR, ev_lenT, ev_lenL, ev_lenO, ev_lenD, ev_abs, ev_min2, ev_max2, ev_intI, ev_intB, ev_set, ev_fc, ev_setset, ev_last, ev_appk, ev_app0, ev_setk, ev_set0, ev_assoc, ev_lapp, ev_lappA, ev_sl, ev_nopart, ev_part, ev_ptK, ev_slT, ev_slS, ev_slR, ev_slK, ev_tyN, ev_tyB, ev_tyI, ev_tyS, ev_tyT, ev_tyL, ev_tyR, ev_tyRL, ev_isi, ev_isi1, ev_isi2, ev_isi3, ev_isi4, ev_isi5, ev_isiT, ev_isi2K, ev_isTy, ev_list, ev_listK, ev_tuple, ev_tupK, ev_getST, ev_getSR, ev_getSL, ev_all, ev_allK, ev_eqXI, ev_eqXS, ev_neXI, ev_neXS, ev_neXB, ev_eqXB, ev_eqXR, ev_neXR, ev_nil2, ev_eqK, ev_neK, ev_meth, ev_meth0, ev_mth1, ev_mth2, ev_mth3, ev_append, ev_m0, ev_m0K, ev_str, ev_for, ev_miR1, ev_rg1K, ev_miL, ev_liK, ev_miT, ev_tiK, ev_lc, ev_wipe0, ev_wipeS, ev_yes, ev_lenSet, ev_lenSetK, ev_listR, ev_lrK, ev_put2, ev_p2A, ev_p2K, ev_p2E, ev_put1, ev_pt1, ev_addXI, ev_addXB, ev_addXS, ev_addXT, ev_addXL, ev_subXI, ev_subXB, ev_mulXI, ev_mulXB, ev_mulXL, ev_negXI, ev_negXB, ev_strXI, ev_strXB, ev_mulYI, ev_mulYB, ev_mulYL, ev_mulYT, ev_dnew, ev_dnewT, ev_dgetE, ev_getD, ev_gD, ev_keyI, ev_keyS, ev_dgK, ev_dinE, ev_diK, ev_dputE, ev_dpK, ev_dget2E, ev_isDA, ev_isSome, ev_isNone, ev_dg2K, ev_dpop2E, ev_dp2K, ev_dp3S, ev_dp3N, ev_sortedE, ev_srO1, ev_srO2, ev_gLd, ev_srKS, ev_srKI, ev_gDT, ev_gT, ev_tinE, ev_tiKK, ev_keysA, ev_keysN, ev_keysC, ev_dputTE, ev_dptK, ev_dispE, ev_mpN, ev_mpC, ev_pcK, ev_dsK, ev_dsK2, ev_lc2E, ev_imp, ev_simp, ev_split, ev_splF, ev_splG, ev_fmt, ev_fmtS, ev_fmtI, ev_addK, ev_js0, ev_js1, ev_joined, ev_star, ev_starK, ev_each2, ev_each2K, ev_unl, ev_unlK, ev_intS, ev_strYS, ev_strYI, List.getElem?_cons_zero, List.getElem?_cons_succ, List.set_cons_zero, List.set_cons_succ, List.length_cons, List.length_nil, List.cons_append, List.nil_append, if_true, if_false, Bool.false_eq_true, Bool.true_eq_false, reduceIte, Bool.not_true, Bool.not_false, Bool.and_true, Bool.true_and, Bool.and_false, Bool.false_and, Bool.or_true, Bool.true_or, Bool.or_false, Bool.false_or, decide_eq_true_eq, Nat.reduceAdd, Nat.reduceLeDiff, Nat.zero_add, Int.reduceLT, Int.reduceLE, Int.reduceEq, Int.reduceNeg, Nat.reduceEqDiff, and_self, and_true, true_and, decide_true, decide_false, eq_self, ite_true, ite_false, Int.reduceSub, Int.reduceAdd, Int.cast_ofNat_Int, Int.natCast_add, Int.cast_ofNat_Int, Nat.reduceSub, Nat.add_assoc, String.reduceBEq, String.reduceEq, Bool.or_not_self, beq_self_eq_true, g6, gm']
    refine okR_use (names_wp D6.bag (by omega) (by omega)) fun a s7 h => ?_
    obtain ⟨n', ss', rfl, g7, N7, n7, le7, D7⟩ := h
    have k7 := D7.get k6 (by omega)
    have l6 := D6.le
    rw [List.length_append] at l6
    simp only [List.length_cons, List.length_nil] at l6
    have b7 := D7.lt
    simp only [wp_okR, wp_okF, wp_fin, wp_next, wp_then, wp_bind, wp_nox, wp_tK, wp_bK, wp_fr, wp_fn, wp_nn, wp_nr, wp_nb, wp_nc, wp_ln, wp_lc, wp_lb, wp_lr, wp_jn, wp_jc, ev_bok, ev_bno, ev_bex, ev_tok, ev_tno, ev_tex, ev_nnx, ev_nrt, ev_nbk, ev_nct, ev_nex, ev_nno, ev_frt, ev_fnx, ev_fex, ev_xok, ev_lsome, ev_lnone, ev_seq, ev_if, ev_ret, ev_retN, ev_drop, ev_nop, ev_brk, ev_cont, ev_asgN, ev_asgT, ev_asgO, ev_mgTup, ev_mgN, ev_mgC, ev_mg0, ev_putL, ev_putO, ev_var, ev_vr, ev_c, ev_op, ev_un, ev_test, ev_tb, ev_notT, ev_andT, ev_orT, ev_ifE, ev_not, ev_nb, ev_and, ev_andK, ev_or, ev_orK, ev_chain, ev_chK, ev_nil, ev_cons, ev_tup, ev_lst, ev_new, ev_call, ev_cb, ev_size, ev_addI, ev_addS, ev_addT, ev_addL, ev_catO, ev_sub, ev_mul, ev_div, ev_mod, ev_p5, ev_p6, ev_p12, ev_p18, ev_p30, ev_neg, ev_ltI, ev_ltS, ev_leI, ev_leS, ev_gt, ev_ge, ev_eqI, ev_eqS, ev_neI, ev_neS, ev_neB, ev_eqB, ev_is, ev_isnot, ev_ixT, ev_ixS, ev_ixR, ev_ixL, ev_ixK, ev_getL, ev_getM, ev_gL, ev_gM, ev_at0, ev_at1, ev_at2, ev_at3, ev_at4, ev_lenS, ev_lenR, ev_lenT, ev_lenL, ev_lenO, ev_lenD, ev_abs, ev_min2, ev_max2, ev_intI, ev_intB, ev_set, ev_fc, ev_setset, ev_last, ev_appk, ev_app0, ev_setk, ev_set0, ev_assoc, ev_lapp, ev_lappA, ev_sl, ev_nopart, ev_part, ev_ptK, ev_slT, ev_slS, ev_slR, ev_slK, ev_tyN, ev_tyB, ev_tyI, ev_tyS, ev_tyT, ev_tyL, ev_tyR, ev_tyRL, ev_isi, ev_isi1, ev_isi2, ev_isi3, ev_isi4, ev_isi5, ev_isiT, ev_isi2K, ev_isTy, ev_list, ev_listK, ev_tuple, ev_tupK, ev_getST, ev_getSR, ev_getSL, ev_all, ev_allK, ev_eqXI, ev_eqXS, ev_neXI, ev_neXS, ev_neXB, ev_eqXB, ev_eqXR, ev_neXR, ev_nil2, ev_eqK, ev_neK, ev_meth, ev_meth0, ev_mth1, ev_mth2, ev_mth3, ev_append, ev_m0, ev_m0K, ev_str, ev_for, ev_miR1, ev_rg1K, ev_miL, ev_liK, ev_miT, ev_tiK, ev_lc, ev_wipe0, ev_wipeS, ev_yes, ev_lenSet, ev_lenSetK, ev_listR, ev_lrK, ev_put2, ev_p2A, ev_p2K, ev_p2E, ev_put1, ev_pt1, ev_addXI, ev_addXB, ev_addXS, ev_addXT, ev_addXL, ev_subXI, ev_subXB, ev_mulXI, ev_mulXB, ev_mulXL, ev_negXI, ev_negXB, ev_strXI, ev_strXB, ev_mulYI, ev_mulYB, ev_mulYL, ev_mulYT, ev_dnew, ev_dnewT, ev_dgetE, ev_getD, ev_gD, ev_keyI, ev_keyS, ev_dgK, ev_dinE, ev_diK, ev_dputE, ev_dpK, ev_dget2E, ev_isDA, ev_isSome, ev_isNone, ev_dg2K, ev_dpop2E, ev_dp2K, ev_dp3S, ev_dp3N, ev_sortedE, ev_srO1, ev_srO2, ev_gLd, ev_srKS, ev_srKI, ev_gDT, ev_gT, ev_tinE, ev_tiKK, ev_keysA, ev_keysN, ev_keysC, ev_dputTE, ev_dptK, ev_dispE, ev_mpN, ev_mpC, ev_pcK, ev_dsK, ev_dsK2, ev_lc2E, ev_imp, ev_simp, ev_split, ev_splF, ev_splG, ev_fmt, ev_fmtS, ev_fmtI, ev_addK, ev_js0, ev_js1, ev_joined, ev_star, ev_starK, ev_each2, ev_each2K, ev_unl, ev_unlK, ev_intS, ev_strYS, ev_strYI, List.getElem?_cons_zero, List.getElem?_cons_succ, List.set_cons_zero, List.set_cons_succ, List.length_cons, List.length_nil, List.cons_append, List.nil_append, if_true, if_false, Bool.false_eq_true, Bool.true_eq_false, reduceIte, Bool.not_true, Bool.not_false, Bool.and_true, Bool.true_and, Bool.and_false, Bool.false_and, Bool.or_true, Bool.true_or, Bool.or_false, Bool.false_or, decide_eq_true_eq, Nat.reduceAdd, Nat.reduceLeDiff, Nat.zero_add, Int.reduceLT, Int.reduceLE, Int.reduceEq, Int.reduceNeg, Nat.reduceEqDiff, and_self, and_true, true_and, decide_true, decide_false, eq_self, ite_true, ite_false, Int.reduceSub, Int.reduceAdd, Int.cast_ofNat_Int, Int.natCast_add, Int.cast_ofNat_Int, Nat.reduceSub, Nat.add_assoc, String.reduceBEq, String.reduceEq, Bool.or_not_self, beq_self_eq_true, g7]
    have D7' : Dr b s4 s7 := D6'.trans D7
    refine forL_wp (j := 0) (fun i env s => ∃ z4 z8 acc, env = [some (A.ref b), some (A.int 1), some (A.int l), some (A.int d), z4, some (A.ref (List.length s3)), some (A.int 50), some (A.ref (List.length s4 + 1)), z8] ∧ s[s4.length + 1]? = some (.lst acc) ∧ s[n']? = some (.lst (ss'.map A.str)) ∧ acc.length = i ∧ (∀ (k : Nat) x y, (ss'.map A.str)[k]? = some x → acc[k]? = some y → PC x y) ∧ Dr b s4 s) (fun i env s h => ?_) ⟨none, none, [], rfl, k7, g7, rfl, (fun k x y _ h => by simp at h), D7'⟩ (fun i x env s hx h => ?_) (fun env s h => ?_)
    · obtain ⟨_, _, _, _, _, h, _⟩ := h
      show getL s (.ref n') = _
      rw [ev_getL, h]
      rfl
    · obtain ⟨z4, z8, acc, rfl, h1, h2, h3, h4, D8⟩ := h
      obtain ⟨y, ey, rfl⟩ : ∃ y, ss'[i]? = some y ∧ x = .str y := by
        rw [List.getElem?_map] at hx
        obtain ⟨y, e1, e2⟩ := Option.map_eq_some_iff.mp hx
        exact ⟨y, e1, e2.symm⟩
      have hi := (List.getElem?_eq_some_iff.mp ey).1
      refine ⟨_, rfl, ?_⟩
      unfold lb__law_setup_1
      simp only [wp_okR, wp_okF, wp_fin, wp_next, wp_then, wp_bind, wp_nox, wp_tK, wp_bK, wp_fr, wp_fn, wp_nn, wp_nr, wp_nb, wp_nc, wp_ln, wp_lc, wp_lb, wp_lr, wp_jn, wp_jc, ev_bok, ev_bno, ev_bex, ev_tok, ev_tno, ev_tex, ev_nnx, ev_nrt, ev_nbk, ev_nct, ev_nex, ev_nno, ev_frt, ev_fnx, ev_fex, ev_xok, ev_lsome, ev_lnone, ev_seq, ev_if, ev_ret, ev_retN, ev_drop, ev_nop, ev_brk, ev_cont, ev_asgN, ev_asgT, ev_asgO, ev_mgTup, ev_mgN, ev_mgC, ev_mg0, ev_putL, ev_putO, ev_var, ev_vr, ev_c, ev_op, ev_un, ev_test, ev_tb, ev_notT, ev_andT, ev_orT, ev_ifE, ev_not, ev_nb, ev_and, ev_andK, ev_or, ev_orK, ev_chain, ev_chK, ev_nil, ev_cons, ev_tup, ev_lst, ev_new, ev_call, ev_cb, ev_size, ev_addI, ev_addS, ev_addT, ev_addL, ev_catO, ev_sub, ev_mul, ev_div, ev_mod, ev_p5, ev_p6, ev_p12, ev_p18, ev_p30, ev_neg, ev_ltI, ev_ltS, ev_leI, ev_leS, ev_gt, ev_ge, ev_eqI, ev_eqS, ev_neI, ev_neS, ev_neB, ev_eqB, ev_is, ev_isnot, ev_ixT, ev_ixS, ev_ixR, ev_ixL, ev_ixK, ev_getL, ev_getM, ev_gL, ev_gM, ev_at0, ev_at1, ev_at2, ev_at3, ev_at4, ev_lenS, ev_lenR, ev_lenT, ev_lenL, ev_lenO, ev_lenD, ev_abs, ev_min2, ev_max2, ev_intI, ev_intB, ev_set, ev_fc, ev_setset, ev_last, ev_appk, ev_app0, ev_setk, ev_set0, ev_assoc, ev_lapp, ev_lappA, ev_sl, ev_nopart, ev_part, ev_ptK, ev_slT, ev_slS, ev_slR, ev_slK, ev_tyN, ev_tyB, ev_tyI, ev_tyS, ev_tyT, ev_tyL, ev_tyR, ev_tyRL, ev_isi, ev_isi1, ev_isi2, ev_isi3, ev_isi4, ev_isi5, ev_isiT, ev_isi2K, ev_isTy, ev_list, ev_listK, ev_tuple, ev_tupK, ev_getST, ev_getSR, ev_getSL, ev_all, ev_allK, ev_eqXI, ev_eqXS, ev_neXI, ev_neXS, ev_neXB, ev_eqXB, ev_eqXR, ev_neXR, ev_nil2, ev_eqK, ev_neK, ev_meth, ev_meth0, ev_mth1, ev_mth2, ev_mth3, ev_append, ev_m0, ev_m0K, ev_str, ev_for, ev_miR1, ev_rg1K, ev_miL, ev_liK, ev_miT, ev_tiK, ev_lc, ev_wipe0, ev_wipeS, ev_yes, ev_lenSet, ev_lenSetK, ev_listR, ev_lrK, ev_put2, ev_p2A, ev_p2K, ev_p2E, ev_put1, ev_pt1, ev_addXI, ev_addXB, ev_addXS, ev_addXT, ev_addXL, ev_subXI, ev_subXB, ev_mulXI, ev_mulXB, ev_mulXL, ev_negXI, ev_negXB, ev_strXI, ev_strXB, ev_mulYI, ev_mulYB, ev_mulYL, ev_mulYT, ev_dnew, ev_dnewT, ev_dgetE, ev_getD, ev_gD, ev_keyI, ev_keyS, ev_dgK, ev_dinE, ev_diK, ev_dputE, ev_dpK, ev_dget2E, ev_isDA, ev_isSome, ev_isNone, ev_dg2K, ev_dpop2E, ev_dp2K, ev_dp3S, ev_dp3N, ev_sortedE, ev_srO1, ev_srO2, ev_gLd, ev_srKS, ev_srKI, ev_gDT, ev_gT, ev_tinE, ev_tiKK, ev_keysA, ev_keysN, ev_keysC, ev_dputTE, ev_dptK, ev_dispE, ev_mpN, ev_mpC, ev_pcK, ev_dsK, ev_dsK2, ev_lc2E, ev_imp, ev_simp, ev_split, ev_splF, ev_splG, ev_fmt, ev_fmtS, ev_fmtI, ev_addK, ev_js0, ev_js1, ev_joined, ev_star, ev_starK, ev_each2, ev_each2K, ev_unl, ev_unlK, ev_intS, ev_strYS, ev_strYI, List.getElem?_cons_zero, List.getElem?_cons_succ, List.set_cons_zero, List.set_cons_succ, List.length_cons, List.length_nil, List.cons_append, List.nil_append, if_true, if_false, Bool.false_eq_true, Bool.true_eq_false, reduceIte, Bool.not_true, Bool.not_false, Bool.and_true, Bool.true_and, Bool.and_false, Bool.false_and, Bool.or_true, Bool.true_or, Bool.or_false, Bool.false_or, decide_eq_true_eq, Nat.reduceAdd, Nat.reduceLeDiff, Nat.zero_add, Int.reduceLT, Int.reduceLE, Int.reduceEq, Int.reduceNeg, Nat.reduceEqDiff, and_self, and_true, true_and, decide_true, decide_false, eq_self, ite_true, ite_false, Int.reduceSub, Int.reduceAdd, Int.cast_ofNat_Int, Int.natCast_add, Int.cast_ofNat_Int, Nat.reduceSub, Nat.add_assoc, String.reduceBEq, String.reduceEq, Bool.or_not_self, beq_self_eq_true]
      refine okR_use (take_wp (D8.bag.app _) (by decide) (by decide)) fun a s9 h => ?_
      obtain ⟨q, rfl, q0, q1, D9⟩ := h
      have b8 := D8.lt
      have g9 : s9[s.length]? = some (.lst ([100, 50, 0].map A.int)) := D9.get ev_last (by omega)
      obtain ⟨ra, mra, gra, _⟩ := pickI (ns := [100, 50, 0]) q0 q1
      simp only [List.map_cons, List.map_nil] at g9 gra
      have k9 := D9.get (show (s ++ [AO.lst [A.int 100, A.int 50, A.int 0]])[s4.length + 1]? = some (.lst acc) by rw [List.getElem?_append_left (List.getElem?_eq_some_iff.mp h1).1]; exact h1) (by omega)
      have m9 := D9.get (show (s ++ [AO.lst [A.int 100, A.int 50, A.int 0]])[n']? = some (.lst (ss'.map A.str)) by rw [List.getElem?_append_left (List.getElem?_eq_some_iff.mp h2).1]; exact h2) (by omega)
      have D9' : Dr b s4 s9 := (D8.app _).trans D9
      have fin : ∀ (rate : Int) (t : Sto), 50 ≤ rate → rate ≤ 200 → Dr b s9 t → okF (sDrop (mMeth oAppend (mVar 7) (mCons (mTup (mCons (mVar 4) (mCons (mVar 8) (mCons (mCall 2 m__law_take (mCons (mVar 0) (mCons (mC (.int 100)) mNil))) mNil)))) mNil)) [some (A.ref b), some (A.int 1), some (A.int l), some (A.int d), some (.str y), some (A.ref (List.length s3)), some (A.int 50), some (A.ref (List.length s4 + 1)), some (.int rate)] t)
          (lK (fun env s => ∃ z4 z8 acc, env = [some (A.ref b), some (A.int 1), some (A.int l), some (A.int d), z4, some (A.ref (List.length s3)), some (A.int 50), some (A.ref (List.length s4 + 1)), z8] ∧ s[s4.length + 1]? = some (.lst acc) ∧ s[n']? = some (.lst (ss'.map A.str)) ∧ acc.length = 0 + i + 1 ∧ (∀ (k : Nat) x y, (ss'.map A.str)[k]? = some x → acc[k]? = some y → PC x y) ∧ Dr b s4 s) (nK (sRet (mTup (mCons (mCB oTuple (mCons (mVar 5) mNil)) (mCons (mCB oTuple (mCons (mVar 7) mNil)) (mCons (mVar 2) (mCons (mVar 3) mNil)))))) (fK fun a s => ∃ fs cs l d, a = setA fs cs l d ∧ SetG fs cs l d ∧ Dr b st s))) := fun rate t hr1 hr2 Dt => by
        have kt := Dt.get k9 (by omega)
        have mt := Dt.get m9 (by omega)
        simp only [wp_okR, wp_okF, wp_fin, wp_next, wp_then, wp_bind, wp_nox, wp_tK, wp_bK, wp_fr, wp_fn, wp_nn, wp_nr, wp_nb, wp_nc, wp_ln, wp_lc, wp_lb, wp_lr, wp_jn, wp_jc, ev_bok, ev_bno, ev_bex, ev_tok, ev_tno, ev_tex, ev_nnx, ev_nrt, ev_nbk, ev_nct, ev_nex, ev_nno, ev_frt, ev_fnx, ev_fex, ev_xok, ev_lsome, ev_lnone, ev_seq, ev_if, ev_ret, ev_retN, ev_drop, ev_nop, ev_brk, ev_cont, ev_asgN, ev_asgT, ev_asgO, ev_mgTup, ev_mgN, ev_mgC, ev_mg0, ev_putL, ev_putO, ev_var, ev_vr, ev_c, ev_op, ev_un, ev_test, ev_tb, ev_notT, ev_andT, ev_orT, ev_ifE, ev_not, ev_nb, ev_and, ev_andK, ev_or, ev_orK, ev_chain, ev_chK, ev_nil, ev_cons, ev_tup, ev_lst, ev_new, ev_call, ev_cb, ev_size, ev_addI, ev_addS, ev_addT, ev_addL, ev_catO, ev_sub, ev_mul, ev_div, ev_mod, ev_p5, ev_p6, ev_p12, ev_p18, ev_p30, ev_neg, ev_ltI, ev_ltS, ev_leI, ev_leS, ev_gt, ev_ge, ev_eqI, ev_eqS, ev_neI, ev_neS, ev_neB, ev_eqB, ev_is, ev_isnot, ev_ixT, ev_ixS, ev_ixR, ev_ixL, ev_ixK, ev_getL, ev_getM, ev_gL, ev_gM, ev_at0, ev_at1, ev_at2, ev_at3, ev_at4, ev_lenS, ev_lenR, ev_lenT, ev_lenL, ev_lenO, ev_lenD, ev_abs, ev_min2, ev_max2, ev_intI, ev_intB, ev_set, ev_fc, ev_setset, ev_last, ev_appk, ev_app0, ev_setk, ev_set0, ev_assoc, ev_lapp, ev_lappA, ev_sl, ev_nopart, ev_part, ev_ptK, ev_slT, ev_slS, ev_slR, ev_slK, ev_tyN, ev_tyB, ev_tyI, ev_tyS, ev_tyT, ev_tyL, ev_tyR, ev_tyRL, ev_isi, ev_isi1, ev_isi2, ev_isi3, ev_isi4, ev_isi5, ev_isiT, ev_isi2K, ev_isTy, ev_list, ev_listK, ev_tuple, ev_tupK, ev_getST, ev_getSR, ev_getSL, ev_all, ev_allK, ev_eqXI, ev_eqXS, ev_neXI, ev_neXS, ev_neXB, ev_eqXB, ev_eqXR, ev_neXR, ev_nil2, ev_eqK, ev_neK, ev_meth, ev_meth0, ev_mth1, ev_mth2, ev_mth3, ev_append, ev_m0, ev_m0K, ev_str, ev_for, ev_miR1, ev_rg1K, ev_miL, ev_liK, ev_miT, ev_tiK, ev_lc, ev_wipe0, ev_wipeS, ev_yes, ev_lenSet, ev_lenSetK, ev_listR, ev_lrK, ev_put2, ev_p2A, ev_p2K, ev_p2E, ev_put1, ev_pt1, ev_addXI, ev_addXB, ev_addXS, ev_addXT, ev_addXL, ev_subXI, ev_subXB, ev_mulXI, ev_mulXB, ev_mulXL, ev_negXI, ev_negXB, ev_strXI, ev_strXB, ev_mulYI, ev_mulYB, ev_mulYL, ev_mulYT, ev_dnew, ev_dnewT, ev_dgetE, ev_getD, ev_gD, ev_keyI, ev_keyS, ev_dgK, ev_dinE, ev_diK, ev_dputE, ev_dpK, ev_dget2E, ev_isDA, ev_isSome, ev_isNone, ev_dg2K, ev_dpop2E, ev_dp2K, ev_dp3S, ev_dp3N, ev_sortedE, ev_srO1, ev_srO2, ev_gLd, ev_srKS, ev_srKI, ev_gDT, ev_gT, ev_tinE, ev_tiKK, ev_keysA, ev_keysN, ev_keysC, ev_dputTE, ev_dptK, ev_dispE, ev_mpN, ev_mpC, ev_pcK, ev_dsK, ev_dsK2, ev_lc2E, ev_imp, ev_simp, ev_split, ev_splF, ev_splG, ev_fmt, ev_fmtS, ev_fmtI, ev_addK, ev_js0, ev_js1, ev_joined, ev_star, ev_starK, ev_each2, ev_each2K, ev_unl, ev_unlK, ev_intS, ev_strYS, ev_strYI, List.getElem?_cons_zero, List.getElem?_cons_succ, List.set_cons_zero, List.set_cons_succ, List.length_cons, List.length_nil, List.cons_append, List.nil_append, if_true, if_false, Bool.false_eq_true, Bool.true_eq_false, reduceIte, Bool.not_true, Bool.not_false, Bool.and_true, Bool.true_and, Bool.and_false, Bool.false_and, Bool.or_true, Bool.true_or, Bool.or_false, Bool.false_or, decide_eq_true_eq, Nat.reduceAdd, Nat.reduceLeDiff, Nat.zero_add, Int.reduceLT, Int.reduceLE, Int.reduceEq, Int.reduceNeg, Nat.reduceEqDiff, and_self, and_true, true_and, decide_true, decide_false, eq_self, ite_true, ite_false, Int.reduceSub, Int.reduceAdd, Int.cast_ofNat_Int, Int.natCast_add, Int.cast_ofNat_Int, Nat.reduceSub, Nat.add_assoc, String.reduceBEq, String.reduceEq, Bool.or_not_self, beq_self_eq_true, kt]
        refine okR_use (take_wp Dt.bag (by decide) (by decide)) fun a s10 h => ?_
        obtain ⟨ah, rfl, ah0, ah1, D10⟩ := h
        have k10 := D10.get kt (by omega)
        have m10 := D10.get mt (by omega)
        have sz : (acc.length < 16777216) = True := eq_true (by omega)
        have l10 := (List.getElem?_eq_some_iff.mp k10).1
        simp only [wp_okR, wp_okF, wp_fin, wp_next, wp_then, wp_bind, wp_nox, wp_tK, wp_bK, wp_fr, wp_fn, wp_nn, wp_nr, wp_nb, wp_nc, wp_ln, wp_lc, wp_lb, wp_lr, wp_jn, wp_jc, ev_bok, ev_bno, ev_bex, ev_tok, ev_tno, ev_tex, ev_nnx, ev_nrt, ev_nbk, ev_nct, ev_nex, ev_nno, ev_frt, ev_fnx, ev_fex, ev_xok, ev_lsome, ev_lnone, ev_seq, ev_if, ev_ret, ev_retN, ev_drop, ev_nop, ev_brk, ev_cont, ev_asgN, ev_asgT, ev_asgO, ev_mgTup, ev_mgN, ev_mgC, ev_mg0, ev_putL, ev_putO, ev_var, ev_vr, ev_c, ev_op, ev_un, ev_test, ev_tb, ev_notT, ev_andT, ev_orT, ev_ifE, ev_not, ev_nb, ev_and, ev_andK, ev_or, ev_orK, ev_chain, ev_chK, ev_nil, ev_cons, ev_tup, ev_lst, ev_new, ev_call, ev_cb, ev_size, ev_addI, ev_addS, ev_addT, ev_addL, ev_catO, ev_sub, ev_mul, ev_div, ev_mod, ev_p5, ev_p6, ev_p12, ev_p18, ev_p30, ev_neg, ev_ltI, ev_ltS, ev_leI, ev_leS, ev_gt, ev_ge, ev_eqI, ev_eqS, ev_neI, ev_neS, ev_neB, ev_eqB, ev_is, ev_isnot, ev_ixT, ev_ixS, ev_ixR, ev_ixL, ev_ixK, ev_getL, ev_getM, ev_gL, ev_gM, ev_at0, ev_at1, ev_at2, ev_at3, ev_at4, ev_lenS, ev_lenR, ev_lenT, ev_lenL, ev_lenO, ev_lenD, ev_abs, ev_min2, ev_max2, ev_intI, ev_intB, ev_set, ev_fc, ev_setset, ev_last, ev_appk, ev_app0, ev_setk, ev_set0, ev_assoc, ev_lapp, ev_lappA, ev_sl, ev_nopart, ev_part, ev_ptK, ev_slT, ev_slS, ev_slR, ev_slK, ev_tyN, ev_tyB, ev_tyI, ev_tyS, ev_tyT, ev_tyL, ev_tyR, ev_tyRL, ev_isi, ev_isi1, ev_isi2, ev_isi3, ev_isi4, ev_isi5, ev_isiT, ev_isi2K, ev_isTy, ev_list, ev_listK, ev_tuple, ev_tupK, ev_getST, ev_getSR, ev_getSL, ev_all, ev_allK, ev_eqXI, ev_eqXS, ev_neXI, ev_neXS, ev_neXB, ev_eqXB, ev_eqXR, ev_neXR, ev_nil2, ev_eqK, ev_neK, ev_meth, ev_meth0, ev_mth1, ev_mth2, ev_mth3, ev_append, ev_m0, ev_m0K, ev_str, ev_for, ev_miR1, ev_rg1K, ev_miL, ev_liK, ev_miT, ev_tiK, ev_lc, ev_wipe0, ev_wipeS, ev_yes, ev_lenSet, ev_lenSetK, ev_listR, ev_lrK, ev_put2, ev_p2A, ev_p2K, ev_p2E, ev_put1, ev_pt1, ev_addXI, ev_addXB, ev_addXS, ev_addXT, ev_addXL, ev_subXI, ev_subXB, ev_mulXI, ev_mulXB, ev_mulXL, ev_negXI, ev_negXB, ev_strXI, ev_strXB, ev_mulYI, ev_mulYB, ev_mulYL, ev_mulYT, ev_dnew, ev_dnewT, ev_dgetE, ev_getD, ev_gD, ev_keyI, ev_keyS, ev_dgK, ev_dinE, ev_diK, ev_dputE, ev_dpK, ev_dget2E, ev_isDA, ev_isSome, ev_isNone, ev_dg2K, ev_dpop2E, ev_dp2K, ev_dp3S, ev_dp3N, ev_sortedE, ev_srO1, ev_srO2, ev_gLd, ev_srKS, ev_srKI, ev_gDT, ev_gT, ev_tinE, ev_tiKK, ev_keysA, ev_keysN, ev_keysC, ev_dputTE, ev_dptK, ev_dispE, ev_mpN, ev_mpC, ev_pcK, ev_dsK, ev_dsK2, ev_lc2E, ev_imp, ev_simp, ev_split, ev_splF, ev_splG, ev_fmt, ev_fmtS, ev_fmtI, ev_addK, ev_js0, ev_js1, ev_joined, ev_star, ev_starK, ev_each2, ev_each2K, ev_unl, ev_unlK, ev_intS, ev_strYS, ev_strYI, List.getElem?_cons_zero, List.getElem?_cons_succ, List.set_cons_zero, List.set_cons_succ, List.length_cons, List.length_nil, List.cons_append, List.nil_append, if_true, if_false, Bool.false_eq_true, Bool.true_eq_false, reduceIte, Bool.not_true, Bool.not_false, Bool.and_true, Bool.true_and, Bool.and_false, Bool.false_and, Bool.or_true, Bool.true_or, Bool.or_false, Bool.false_or, decide_eq_true_eq, Nat.reduceAdd, Nat.reduceLeDiff, Nat.zero_add, Int.reduceLT, Int.reduceLE, Int.reduceEq, Int.reduceNeg, Nat.reduceEqDiff, and_self, and_true, true_and, decide_true, decide_false, eq_self, ite_true, ite_false, Int.reduceSub, Int.reduceAdd, Int.cast_ofNat_Int, Int.natCast_add, Int.cast_ofNat_Int, Nat.reduceSub, Nat.add_assoc, String.reduceBEq, String.reduceEq, Bool.or_not_self, beq_self_eq_true, k10, sz]
        refine ⟨some (.str y), some (.int rate), acc ++ [cliA (y, rate, ah)], rfl, rfl, ?_, by rw [List.length_append, List.length_singleton]; omega, fun k x' y' hx' hy' => ?_, ((D9'.trans Dt).trans D10).put (by omega) (by omega) _⟩
        · rw [List.getElem?_set_ne (by omega)]
          exact m10
        · by_cases hk : k < acc.length
          · rw [List.getElem?_append_left hk] at hy'
            exact h4 k x' y' hx' hy'
          · have hk2 : k = acc.length := by
              have := (List.getElem?_eq_some_iff.mp hy').1
              rw [List.length_append, List.length_singleton] at this
              omega
            subst hk2
            rw [List.getElem?_append_right (Nat.le_refl _), Nat.sub_self] at hy'
            cases hy'
            rw [show acc.length = i by omega, hx] at hx'
            cases hx'
            exact ⟨y, rate, ah, rfl, rfl, hr1, hr2, ah0, by omega⟩
      by_cases hz : ra = 0
      · simp only [wp_okR, wp_okF, wp_fin, wp_next, wp_then, wp_bind, wp_nox, wp_tK, wp_bK, wp_fr, wp_fn, wp_nn, wp_nr, wp_nb, wp_nc, wp_ln, wp_lc, wp_lb, wp_lr, wp_jn, wp_jc, ev_bok, ev_bno, ev_bex, ev_tok, ev_tno, ev_tex, ev_nnx, ev_nrt, ev_nbk, ev_nct, ev_nex, ev_nno, ev_frt, ev_fnx, ev_fex, ev_xok, ev_lsome, ev_lnone, ev_seq, ev_if, ev_ret, ev_retN, ev_drop, ev_nop, ev_brk, ev_cont, ev_asgN, ev_asgT, ev_asgO, ev_mgTup, ev_mgN, ev_mgC, ev_mg0, ev_putL, ev_putO, ev_var, ev_vr, ev_c, ev_op, ev_un, ev_test, ev_tb, ev_notT, ev_andT, ev_orT, ev_ifE, ev_not, ev_nb, ev_and, ev_andK, ev_or, ev_orK, ev_chain, ev_chK, ev_nil, ev_cons, ev_tup, ev_lst, ev_new, ev_call, ev_cb, ev_size, ev_addI, ev_addS, ev_addT, ev_addL, ev_catO, ev_sub, ev_mul, ev_div, ev_mod, ev_p5, ev_p6, ev_p12, ev_p18, ev_p30, ev_neg, ev_ltI, ev_ltS, ev_leI, ev_leS, ev_gt, ev_ge, ev_eqI, ev_eqS, ev_neI, ev_neS, ev_neB, ev_eqB, ev_is, ev_isnot, ev_ixT, ev_ixS, ev_ixR, ev_ixL, ev_ixK, ev_getL, ev_getM, ev_gL, ev_gM, ev_at0, ev_at1, ev_at2, ev_at3, ev_at4, ev_lenS, ev_lenR, ev_lenT, ev_lenL, ev_lenO, ev_lenD, ev_abs, ev_min2, ev_max2, ev_intI, ev_intB, ev_set, ev_fc, ev_setset, ev_last, ev_appk, ev_app0, ev_setk, ev_set0, ev_assoc, ev_lapp, ev_lappA, ev_sl, ev_nopart, ev_part, ev_ptK, ev_slT, ev_slS, ev_slR, ev_slK, ev_tyN, ev_tyB, ev_tyI, ev_tyS, ev_tyT, ev_tyL, ev_tyR, ev_tyRL, ev_isi, ev_isi1, ev_isi2, ev_isi3, ev_isi4, ev_isi5, ev_isiT, ev_isi2K, ev_isTy, ev_list, ev_listK, ev_tuple, ev_tupK, ev_getST, ev_getSR, ev_getSL, ev_all, ev_allK, ev_eqXI, ev_eqXS, ev_neXI, ev_neXS, ev_neXB, ev_eqXB, ev_eqXR, ev_neXR, ev_nil2, ev_eqK, ev_neK, ev_meth, ev_meth0, ev_mth1, ev_mth2, ev_mth3, ev_append, ev_m0, ev_m0K, ev_str, ev_for, ev_miR1, ev_rg1K, ev_miL, ev_liK, ev_miT, ev_tiK, ev_lc, ev_wipe0, ev_wipeS, ev_yes, ev_lenSet, ev_lenSetK, ev_listR, ev_lrK, ev_put2, ev_p2A, ev_p2K, ev_p2E, ev_put1, ev_pt1, ev_addXI, ev_addXB, ev_addXS, ev_addXT, ev_addXL, ev_subXI, ev_subXB, ev_mulXI, ev_mulXB, ev_mulXL, ev_negXI, ev_negXB, ev_strXI, ev_strXB, ev_mulYI, ev_mulYB, ev_mulYL, ev_mulYT, ev_dnew, ev_dnewT, ev_dgetE, ev_getD, ev_gD, ev_keyI, ev_keyS, ev_dgK, ev_dinE, ev_diK, ev_dputE, ev_dpK, ev_dget2E, ev_isDA, ev_isSome, ev_isNone, ev_dg2K, ev_dpop2E, ev_dp2K, ev_dp3S, ev_dp3N, ev_sortedE, ev_srO1, ev_srO2, ev_gLd, ev_srKS, ev_srKI, ev_gDT, ev_gT, ev_tinE, ev_tiKK, ev_keysA, ev_keysN, ev_keysC, ev_dputTE, ev_dptK, ev_dispE, ev_mpN, ev_mpC, ev_pcK, ev_dsK, ev_dsK2, ev_lc2E, ev_imp, ev_simp, ev_split, ev_splF, ev_splG, ev_fmt, ev_fmtS, ev_fmtI, ev_addK, ev_js0, ev_js1, ev_joined, ev_star, ev_starK, ev_each2, ev_each2K, ev_unl, ev_unlK, ev_intS, ev_strYS, ev_strYI, List.getElem?_cons_zero, List.getElem?_cons_succ, List.set_cons_zero, List.set_cons_succ, List.length_cons, List.length_nil, List.cons_append, List.nil_append, if_true, if_false, Bool.false_eq_true, Bool.true_eq_false, reduceIte, Bool.not_true, Bool.not_false, Bool.and_true, Bool.true_and, Bool.and_false, Bool.false_and, Bool.or_true, Bool.true_or, Bool.or_false, Bool.false_or, decide_eq_true_eq, Nat.reduceAdd, Nat.reduceLeDiff, Nat.zero_add, Int.reduceLT, Int.reduceLE, Int.reduceEq, Int.reduceNeg, Nat.reduceEqDiff, and_self, and_true, true_and, decide_true, decide_false, eq_self, ite_true, ite_false, Int.reduceSub, Int.reduceAdd, Int.cast_ofNat_Int, Int.natCast_add, Int.cast_ofNat_Int, Nat.reduceSub, Nat.add_assoc, String.reduceBEq, String.reduceEq, Bool.or_not_self, beq_self_eq_true, g9, gra, hz]
        refine okR_use (take_wp D9.bag (by decide) (by decide)) fun a s10 h => ?_
        obtain ⟨q', rfl, q0', q1', D10⟩ := h
        simp only [wp_okR, wp_okF, wp_fin, wp_next, wp_then, wp_bind, wp_nox, wp_tK, wp_bK, wp_fr, wp_fn, wp_nn, wp_nr, wp_nb, wp_nc, wp_ln, wp_lc, wp_lb, wp_lr, wp_jn, wp_jc, ev_bok, ev_bno, ev_bex, ev_tok, ev_tno, ev_tex, ev_nnx, ev_nrt, ev_nbk, ev_nct, ev_nex, ev_nno, ev_frt, ev_fnx, ev_fex, ev_xok, ev_lsome, ev_lnone, ev_seq, ev_if, ev_ret, ev_retN, ev_drop, ev_nop, ev_brk, ev_cont, ev_asgN, ev_asgT, ev_asgO, ev_mgTup, ev_mgN, ev_mgC, ev_mg0, ev_putL, ev_putO, ev_var, ev_vr, ev_c, ev_op, ev_un, ev_test, ev_tb, ev_notT, ev_andT, ev_orT, ev_ifE, ev_not, ev_nb, ev_and, ev_andK, ev_or, ev_orK, ev_chain, ev_chK, ev_nil, ev_cons, ev_tup, ev_lst, ev_new, ev_call, ev_cb, ev_size, ev_addI, ev_addS, ev_addT, ev_addL, ev_catO, ev_sub, ev_mul, ev_div, ev_mod, ev_p5, ev_p6, ev_p12, ev_p18, ev_p30, ev_neg, ev_ltI, ev_ltS, ev_leI, ev_leS, ev_gt, ev_ge, ev_eqI, ev_eqS, ev_neI, ev_neS, ev_neB, ev_eqB, ev_is, ev_isnot, ev_ixT, ev_ixS, ev_ixR, ev_ixL, ev_ixK, ev_getL, ev_getM, ev_gL, ev_gM, ev_at0, ev_at1, ev_at2, ev_at3, ev_at4, ev_lenS, ev_lenR, ev_lenT, ev_lenL, ev_lenO, ev_lenD, ev_abs, ev_min2, ev_max2, ev_intI, ev_intB, ev_set, ev_fc, ev_setset, ev_last, ev_appk, ev_app0, ev_setk, ev_set0, ev_assoc, ev_lapp, ev_lappA, ev_sl, ev_nopart, ev_part, ev_ptK, ev_slT, ev_slS, ev_slR, ev_slK, ev_tyN, ev_tyB, ev_tyI, ev_tyS, ev_tyT, ev_tyL, ev_tyR, ev_tyRL, ev_isi, ev_isi1, ev_isi2, ev_isi3, ev_isi4, ev_isi5, ev_isiT, ev_isi2K, ev_isTy, ev_list, ev_listK, ev_tuple, ev_tupK, ev_getST, ev_getSR, ev_getSL, ev_all, ev_allK, ev_eqXI, ev_eqXS, ev_neXI, ev_neXS, ev_neXB, ev_eqXB, ev_eqXR, ev_neXR, ev_nil2, ev_eqK, ev_neK, ev_meth, ev_meth0, ev_mth1, ev_mth2, ev_mth3, ev_append, ev_m0, ev_m0K, ev_str, ev_for, ev_miR1, ev_rg1K, ev_miL, ev_liK, ev_miT, ev_tiK, ev_lc, ev_wipe0, ev_wipeS, ev_yes, ev_lenSet, ev_lenSetK, ev_listR, ev_lrK, ev_put2, ev_p2A, ev_p2K, ev_p2E, ev_put1, ev_pt1, ev_addXI, ev_addXB, ev_addXS, ev_addXT, ev_addXL, ev_subXI, ev_subXB, ev_mulXI, ev_mulXB, ev_mulXL, ev_negXI, ev_negXB, ev_strXI, ev_strXB, ev_mulYI, ev_mulYB, ev_mulYL, ev_mulYT, ev_dnew, ev_dnewT, ev_dgetE, ev_getD, ev_gD, ev_keyI, ev_keyS, ev_dgK, ev_dinE, ev_diK, ev_dputE, ev_dpK, ev_dget2E, ev_isDA, ev_isSome, ev_isNone, ev_dg2K, ev_dpop2E, ev_dp2K, ev_dp3S, ev_dp3N, ev_sortedE, ev_srO1, ev_srO2, ev_gLd, ev_srKS, ev_srKI, ev_gDT, ev_gT, ev_tinE, ev_tiKK, ev_keysA, ev_keysN, ev_keysC, ev_dputTE, ev_dptK, ev_dispE, ev_mpN, ev_mpC, ev_pcK, ev_dsK, ev_dsK2, ev_lc2E, ev_imp, ev_simp, ev_split, ev_splF, ev_splG, ev_fmt, ev_fmtS, ev_fmtI, ev_addK, ev_js0, ev_js1, ev_joined, ev_star, ev_starK, ev_each2, ev_each2K, ev_unl, ev_unlK, ev_intS, ev_strYS, ev_strYI, List.getElem?_cons_zero, List.getElem?_cons_succ, List.set_cons_zero, List.set_cons_succ, List.length_cons, List.length_nil, List.cons_append, List.nil_append, if_true, if_false, Bool.false_eq_true, Bool.true_eq_false, reduceIte, Bool.not_true, Bool.not_false, Bool.and_true, Bool.true_and, Bool.and_false, Bool.false_and, Bool.or_true, Bool.true_or, Bool.or_false, Bool.false_or, decide_eq_true_eq, Nat.reduceAdd, Nat.reduceLeDiff, Nat.zero_add, Int.reduceLT, Int.reduceLE, Int.reduceEq, Int.reduceNeg, Nat.reduceEqDiff, and_self, and_true, true_and, decide_true, decide_false, eq_self, ite_true, ite_false, Int.reduceSub, Int.reduceAdd, Int.cast_ofNat_Int, Int.natCast_add, Int.cast_ofNat_Int, Nat.reduceSub, Nat.add_assoc, String.reduceBEq, String.reduceEq, Bool.or_not_self, beq_self_eq_true]
        have := fin (50 + q') s10 (by omega) (by omega) D10
        simp only [wp_okR, wp_okF, wp_fin, wp_next, wp_then, wp_bind, wp_nox, wp_tK, wp_bK, wp_fr, wp_fn, wp_nn, wp_nr, wp_nb, wp_nc, wp_ln, wp_lc, wp_lb, wp_lr, wp_jn, wp_jc, ev_bok, ev_bno, ev_bex, ev_tok, ev_tno, ev_tex, ev_nnx, ev_nrt, ev_nbk, ev_nct, ev_nex, ev_nno, ev_frt, ev_fnx, ev_fex, ev_xok, ev_lsome, ev_lnone, ev_seq, ev_if, ev_ret, ev_retN, ev_drop, ev_nop, ev_brk, ev_cont, ev_asgN, ev_asgT, ev_asgO, ev_mgTup, ev_mgN, ev_mgC, ev_mg0, ev_putL, ev_putO, ev_var, ev_vr, ev_c, ev_op, ev_un, ev_test, ev_tb, ev_notT, ev_andT, ev_orT, ev_ifE, ev_not, ev_nb, ev_and, ev_andK, ev_or, ev_orK, ev_chain, ev_chK, ev_nil, ev_cons, ev_tup, ev_lst, ev_new, ev_call, ev_cb, ev_size, ev_addI, ev_addS, ev_addT, ev_addL, ev_catO, ev_sub, ev_mul, ev_div, ev_mod, ev_p5, ev_p6, ev_p12, ev_p18, ev_p30, ev_neg, ev_ltI, ev_ltS, ev_leI, ev_leS, ev_gt, ev_ge, ev_eqI, ev_eqS, ev_neI, ev_neS, ev_neB, ev_eqB, ev_is, ev_isnot, ev_ixT, ev_ixS, ev_ixR, ev_ixL, ev_ixK, ev_getL, ev_getM, ev_gL, ev_gM, ev_at0, ev_at1, ev_at2, ev_at3, ev_at4, ev_lenS, ev_lenR, ev_lenT, ev_lenL, ev_lenO, ev_lenD, ev_abs, ev_min2, ev_max2, ev_intI, ev_intB, ev_set, ev_fc, ev_setset, ev_last, ev_appk, ev_app0, ev_setk, ev_set0, ev_assoc, ev_lapp, ev_lappA, ev_sl, ev_nopart, ev_part, ev_ptK, ev_slT, ev_slS, ev_slR, ev_slK, ev_tyN, ev_tyB, ev_tyI, ev_tyS, ev_tyT, ev_tyL, ev_tyR, ev_tyRL, ev_isi, ev_isi1, ev_isi2, ev_isi3, ev_isi4, ev_isi5, ev_isiT, ev_isi2K, ev_isTy, ev_list, ev_listK, ev_tuple, ev_tupK, ev_getST, ev_getSR, ev_getSL, ev_all, ev_allK, ev_eqXI, ev_eqXS, ev_neXI, ev_neXS, ev_neXB, ev_eqXB, ev_eqXR, ev_neXR, ev_nil2, ev_eqK, ev_neK, ev_meth, ev_meth0, ev_mth1, ev_mth2, ev_mth3, ev_append, ev_m0, ev_m0K, ev_str, ev_for, ev_miR1, ev_rg1K, ev_miL, ev_liK, ev_miT, ev_tiK, ev_lc, ev_wipe0, ev_wipeS, ev_yes, ev_lenSet, ev_lenSetK, ev_listR, ev_lrK, ev_put2, ev_p2A, ev_p2K, ev_p2E, ev_put1, ev_pt1, ev_addXI, ev_addXB, ev_addXS, ev_addXT, ev_addXL, ev_subXI, ev_subXB, ev_mulXI, ev_mulXB, ev_mulXL, ev_negXI, ev_negXB, ev_strXI, ev_strXB, ev_mulYI, ev_mulYB, ev_mulYL, ev_mulYT, ev_dnew, ev_dnewT, ev_dgetE, ev_getD, ev_gD, ev_keyI, ev_keyS, ev_dgK, ev_dinE, ev_diK, ev_dputE, ev_dpK, ev_dget2E, ev_isDA, ev_isSome, ev_isNone, ev_dg2K, ev_dpop2E, ev_dp2K, ev_dp3S, ev_dp3N, ev_sortedE, ev_srO1, ev_srO2, ev_gLd, ev_srKS, ev_srKI, ev_gDT, ev_gT, ev_tinE, ev_tiKK, ev_keysA, ev_keysN, ev_keysC, ev_dputTE, ev_dptK, ev_dispE, ev_mpN, ev_mpC, ev_pcK, ev_dsK, ev_dsK2, ev_lc2E, ev_imp, ev_simp, ev_split, ev_splF, ev_splG, ev_fmt, ev_fmtS, ev_fmtI, ev_addK, ev_js0, ev_js1, ev_joined, ev_star, ev_starK, ev_each2, ev_each2K, ev_unl, ev_unlK, ev_intS, ev_strYS, ev_strYI, List.getElem?_cons_zero, List.getElem?_cons_succ, List.set_cons_zero, List.set_cons_succ, List.length_cons, List.length_nil, List.cons_append, List.nil_append, if_true, if_false, Bool.false_eq_true, Bool.true_eq_false, reduceIte, Bool.not_true, Bool.not_false, Bool.and_true, Bool.true_and, Bool.and_false, Bool.false_and, Bool.or_true, Bool.true_or, Bool.or_false, Bool.false_or, decide_eq_true_eq, Nat.reduceAdd, Nat.reduceLeDiff, Nat.zero_add, Int.reduceLT, Int.reduceLE, Int.reduceEq, Int.reduceNeg, Nat.reduceEqDiff, and_self, and_true, true_and, decide_true, decide_false, eq_self, ite_true, ite_false, Int.reduceSub, Int.reduceAdd, Int.cast_ofNat_Int, Int.natCast_add, Int.cast_ofNat_Int, Nat.reduceSub, Nat.add_assoc, String.reduceBEq, String.reduceEq, Bool.or_not_self, beq_self_eq_true] at this ⊢
        exact this
      · simp only [wp_okR, wp_okF, wp_fin, wp_next, wp_then, wp_bind, wp_nox, wp_tK, wp_bK, wp_fr, wp_fn, wp_nn, wp_nr, wp_nb, wp_nc, wp_ln, wp_lc, wp_lb, wp_lr, wp_jn, wp_jc, ev_bok, ev_bno, ev_bex, ev_tok, ev_tno, ev_tex, ev_nnx, ev_nrt, ev_nbk, ev_nct, ev_nex, ev_nno, ev_frt, ev_fnx, ev_fex, ev_xok, ev_lsome, ev_lnone, ev_seq, ev_if, ev_ret, ev_retN, ev_drop, ev_nop, ev_brk, ev_cont, ev_asgN, ev_asgT, ev_asgO, ev_mgTup, ev_mgN, ev_mgC, ev_mg0, ev_putL, ev_putO, ev_var, ev_vr, ev_c, ev_op, ev_un, ev_test, ev_tb, ev_notT, ev_andT, ev_orT, ev_ifE, ev_not, ev_nb, ev_and, ev_andK, ev_or, ev_orK, ev_chain, ev_chK, ev_nil, ev_cons, ev_tup, ev_lst, ev_new, ev_call, ev_cb, ev_size, ev_addI, ev_addS, ev_addT, ev_addL, ev_catO, ev_sub, ev_mul, ev_div, ev_mod, ev_p5, ev_p6, ev_p12, ev_p18, ev_p30, ev_neg, ev_ltI, ev_ltS, ev_leI, ev_leS, ev_gt, ev_ge, ev_eqI, ev_eqS, ev_neI, ev_neS, ev_neB, ev_eqB, ev_is, ev_isnot, ev_ixT, ev_ixS, ev_ixR, ev_ixL, ev_ixK, ev_getL, ev_getM, ev_gL, ev_gM, ev_at0, ev_at1, ev_at2, ev_at3, ev_at4, ev_lenS, ev_lenR, ev_lenT, ev_lenL, ev_lenO, ev_lenD, ev_abs, ev_min2, ev_max2, ev_intI, ev_intB, ev_set, ev_fc, ev_setset, ev_last, ev_appk, ev_app0, ev_setk, ev_set0, ev_assoc, ev_lapp, ev_lappA, ev_sl, ev_nopart, ev_part, ev_ptK, ev_slT, ev_slS, ev_slR, ev_slK, ev_tyN, ev_tyB, ev_tyI, ev_tyS, ev_tyT, ev_tyL, ev_tyR, ev_tyRL, ev_isi, ev_isi1, ev_isi2, ev_isi3, ev_isi4, ev_isi5, ev_isiT, ev_isi2K, ev_isTy, ev_list, ev_listK, ev_tuple, ev_tupK, ev_getST, ev_getSR, ev_getSL, ev_all, ev_allK, ev_eqXI, ev_eqXS, ev_neXI, ev_neXS, ev_neXB, ev_eqXB, ev_eqXR, ev_neXR, ev_nil2, ev_eqK, ev_neK, ev_meth, ev_meth0, ev_mth1, ev_mth2, ev_mth3, ev_append, ev_m0, ev_m0K, ev_str, ev_for, ev_miR1, ev_rg1K, ev_miL, ev_liK, ev_miT, ev_tiK, ev_lc, ev_wipe0, ev_wipeS, ev_yes, ev_lenSet, ev_lenSetK, ev_listR, ev_lrK, ev_put2, ev_p2A, ev_p2K, ev_p2E, ev_put1, ev_pt1, ev_addXI, ev_addXB, ev_addXS, ev_addXT, ev_addXL, ev_subXI, ev_subXB, ev_mulXI, ev_mulXB, ev_mulXL, ev_negXI, ev_negXB, ev_strXI, ev_strXB, ev_mulYI, ev_mulYB, ev_mulYL, ev_mulYT, ev_dnew, ev_dnewT, ev_dgetE, ev_getD, ev_gD, ev_keyI, ev_keyS, ev_dgK, ev_dinE, ev_diK, ev_dputE, ev_dpK, ev_dget2E, ev_isDA, ev_isSome, ev_isNone, ev_dg2K, ev_dpop2E, ev_dp2K, ev_dp3S, ev_dp3N, ev_sortedE, ev_srO1, ev_srO2, ev_gLd, ev_srKS, ev_srKI, ev_gDT, ev_gT, ev_tinE, ev_tiKK, ev_keysA, ev_keysN, ev_keysC, ev_dputTE, ev_dptK, ev_dispE, ev_mpN, ev_mpC, ev_pcK, ev_dsK, ev_dsK2, ev_lc2E, ev_imp, ev_simp, ev_split, ev_splF, ev_splG, ev_fmt, ev_fmtS, ev_fmtI, ev_addK, ev_js0, ev_js1, ev_joined, ev_star, ev_starK, ev_each2, ev_each2K, ev_unl, ev_unlK, ev_intS, ev_strYS, ev_strYI, List.getElem?_cons_zero, List.getElem?_cons_succ, List.set_cons_zero, List.set_cons_succ, List.length_cons, List.length_nil, List.cons_append, List.nil_append, if_true, if_false, Bool.false_eq_true, Bool.true_eq_false, reduceIte, Bool.not_true, Bool.not_false, Bool.and_true, Bool.true_and, Bool.and_false, Bool.false_and, Bool.or_true, Bool.true_or, Bool.or_false, Bool.false_or, decide_eq_true_eq, Nat.reduceAdd, Nat.reduceLeDiff, Nat.zero_add, Int.reduceLT, Int.reduceLE, Int.reduceEq, Int.reduceNeg, Nat.reduceEqDiff, and_self, and_true, true_and, decide_true, decide_false, eq_self, ite_true, ite_false, Int.reduceSub, Int.reduceAdd, Int.cast_ofNat_Int, Int.natCast_add, Int.cast_ofNat_Int, Nat.reduceSub, Nat.add_assoc, String.reduceBEq, String.reduceEq, Bool.or_not_self, beq_self_eq_true, g9, gra, hz, decide_false]
        have hra : 50 ≤ ra ∧ ra ≤ 200 := by
          simp only [List.mem_cons, List.not_mem_nil, or_false] at mra
          omega
        have := fin ra s9 hra.1 hra.2 (Dr.refl D9.bag)
        simp only [wp_okR, wp_okF, wp_fin, wp_next, wp_then, wp_bind, wp_nox, wp_tK, wp_bK, wp_fr, wp_fn, wp_nn, wp_nr, wp_nb, wp_nc, wp_ln, wp_lc, wp_lb, wp_lr, wp_jn, wp_jc, ev_bok, ev_bno, ev_bex, ev_tok, ev_tno, ev_tex, ev_nnx, ev_nrt, ev_nbk, ev_nct, ev_nex, ev_nno, ev_frt, ev_fnx, ev_fex, ev_xok, ev_lsome, ev_lnone, ev_seq, ev_if, ev_ret, ev_retN, ev_drop, ev_nop, ev_brk, ev_cont, ev_asgN, ev_asgT, ev_asgO, ev_mgTup, ev_mgN, ev_mgC, ev_mg0, ev_putL, ev_putO, ev_var, ev_vr, ev_c, ev_op, ev_un, ev_test, ev_tb, ev_notT, ev_andT, ev_orT, ev_ifE, ev_not, ev_nb, ev_and, ev_andK, ev_or, ev_orK, ev_chain, ev_chK, ev_nil, ev_cons, ev_tup, ev_lst, ev_new, ev_call, ev_cb, ev_size, ev_addI, ev_addS, ev_addT, ev_addL, ev_catO, ev_sub, ev_mul, ev_div, ev_mod, ev_p5, ev_p6, ev_p12, ev_p18, ev_p30, ev_neg, ev_ltI, ev_ltS, ev_leI, ev_leS, ev_gt, ev_ge, ev_eqI, ev_eqS, ev_neI, ev_neS, ev_neB, ev_eqB, ev_is, ev_isnot, ev_ixT, ev_ixS, ev_ixR, ev_ixL, ev_ixK, ev_getL, ev_getM, ev_gL, ev_gM, ev_at0, ev_at1, ev_at2, ev_at3, ev_at4, ev_lenS, ev_lenR, ev_lenT, ev_lenL, ev_lenO, ev_lenD, ev_abs, ev_min2, ev_max2, ev_intI, ev_intB, ev_set, ev_fc, ev_setset, ev_last, ev_appk, ev_app0, ev_setk, ev_set0, ev_assoc, ev_lapp, ev_lappA, ev_sl, ev_nopart, ev_part, ev_ptK, ev_slT, ev_slS, ev_slR, ev_slK, ev_tyN, ev_tyB, ev_tyI, ev_tyS, ev_tyT, ev_tyL, ev_tyR, ev_tyRL, ev_isi, ev_isi1, ev_isi2, ev_isi3, ev_isi4, ev_isi5, ev_isiT, ev_isi2K, ev_isTy, ev_list, ev_listK, ev_tuple, ev_tupK, ev_getST, ev_getSR, ev_getSL, ev_all, ev_allK, ev_eqXI, ev_eqXS, ev_neXI, ev_neXS, ev_neXB, ev_eqXB, ev_eqXR, ev_neXR, ev_nil2, ev_eqK, ev_neK, ev_meth, ev_meth0, ev_mth1, ev_mth2, ev_mth3, ev_append, ev_m0, ev_m0K, ev_str, ev_for, ev_miR1, ev_rg1K, ev_miL, ev_liK, ev_miT, ev_tiK, ev_lc, ev_wipe0, ev_wipeS, ev_yes, ev_lenSet, ev_lenSetK, ev_listR, ev_lrK, ev_put2, ev_p2A, ev_p2K, ev_p2E, ev_put1, ev_pt1, ev_addXI, ev_addXB, ev_addXS, ev_addXT, ev_addXL, ev_subXI, ev_subXB, ev_mulXI, ev_mulXB, ev_mulXL, ev_negXI, ev_negXB, ev_strXI, ev_strXB, ev_mulYI, ev_mulYB, ev_mulYL, ev_mulYT, ev_dnew, ev_dnewT, ev_dgetE, ev_getD, ev_gD, ev_keyI, ev_keyS, ev_dgK, ev_dinE, ev_diK, ev_dputE, ev_dpK, ev_dget2E, ev_isDA, ev_isSome, ev_isNone, ev_dg2K, ev_dpop2E, ev_dp2K, ev_dp3S, ev_dp3N, ev_sortedE, ev_srO1, ev_srO2, ev_gLd, ev_srKS, ev_srKI, ev_gDT, ev_gT, ev_tinE, ev_tiKK, ev_keysA, ev_keysN, ev_keysC, ev_dputTE, ev_dptK, ev_dispE, ev_mpN, ev_mpC, ev_pcK, ev_dsK, ev_dsK2, ev_lc2E, ev_imp, ev_simp, ev_split, ev_splF, ev_splG, ev_fmt, ev_fmtS, ev_fmtI, ev_addK, ev_js0, ev_js1, ev_joined, ev_star, ev_starK, ev_each2, ev_each2K, ev_unl, ev_unlK, ev_intS, ev_strYS, ev_strYI, List.getElem?_cons_zero, List.getElem?_cons_succ, List.set_cons_zero, List.set_cons_succ, List.length_cons, List.length_nil, List.cons_append, List.nil_append, if_true, if_false, Bool.false_eq_true, Bool.true_eq_false, reduceIte, Bool.not_true, Bool.not_false, Bool.and_true, Bool.true_and, Bool.and_false, Bool.false_and, Bool.or_true, Bool.true_or, Bool.or_false, Bool.false_or, decide_eq_true_eq, Nat.reduceAdd, Nat.reduceLeDiff, Nat.zero_add, Int.reduceLT, Int.reduceLE, Int.reduceEq, Int.reduceNeg, Nat.reduceEqDiff, and_self, and_true, true_and, decide_true, decide_false, eq_self, ite_true, ite_false, Int.reduceSub, Int.reduceAdd, Int.cast_ofNat_Int, Int.natCast_add, Int.cast_ofNat_Int, Nat.reduceSub, Nat.add_assoc, String.reduceBEq, String.reduceEq, Bool.or_not_self, beq_self_eq_true] at this ⊢
        exact this
    · obtain ⟨z4, z8, acc, rfl, h1, _, h3, h4, D8⟩ := h
      obtain ⟨cs, rfl, ec, pc⟩ := zipRows (γ := Int × Int) (fun n p => cliA (n, p)) (fun x y h => by obtain ⟨n, r, a, e1, e2, _⟩ := h; cases e1; exact ⟨_, e2⟩) (by rw [h3, List.length_map]; omega) h4
      have f8 := D8.get ‹_› (show s3.length ≠ b by omega)
      simp only [wp_okR, wp_okF, wp_fin, wp_next, wp_then, wp_bind, wp_nox, wp_tK, wp_bK, wp_fr, wp_fn, wp_nn, wp_nr, wp_nb, wp_nc, wp_ln, wp_lc, wp_lb, wp_lr, wp_jn, wp_jc, ev_bok, ev_bno, ev_bex, ev_tok, ev_tno, ev_tex, ev_nnx, ev_nrt, ev_nbk, ev_nct, ev_nex, ev_nno, ev_frt, ev_fnx, ev_fex, ev_xok, ev_lsome, ev_lnone, ev_seq, ev_if, ev_ret, ev_retN, ev_drop, ev_nop, ev_brk, ev_cont, ev_asgN, ev_asgT, ev_asgO, ev_mgTup, ev_mgN, ev_mgC, ev_mg0, ev_putL, ev_putO, ev_var, ev_vr, ev_c, ev_op, ev_un, ev_test, ev_tb, ev_notT, ev_andT, ev_orT, ev_ifE, ev_not, ev_nb, ev_and, ev_andK, ev_or, ev_orK, ev_chain, ev_chK, ev_nil, ev_cons, ev_tup, ev_lst, ev_new, ev_call, ev_cb, ev_size, ev_addI, ev_addS, ev_addT, ev_addL, ev_catO, ev_sub, ev_mul, ev_div, ev_mod, ev_p5, ev_p6, ev_p12, ev_p18, ev_p30, ev_neg, ev_ltI, ev_ltS, ev_leI, ev_leS, ev_gt, ev_ge, ev_eqI, ev_eqS, ev_neI, ev_neS, ev_neB, ev_eqB, ev_is, ev_isnot, ev_ixT, ev_ixS, ev_ixR, ev_ixL, ev_ixK, ev_getL, ev_getM, ev_gL, ev_gM, ev_at0, ev_at1, ev_at2, ev_at3, ev_at4, ev_lenS, ev_lenR, ev_lenT, ev_lenL, ev_lenO, ev_lenD, ev_abs, ev_min2, ev_max2, ev_intI, ev_intB, ev_set, ev_fc, ev_setset, ev_last, ev_appk, ev_app0, ev_setk, ev_set0, ev_assoc, ev_lapp, ev_lappA, ev_sl, ev_nopart, ev_part, ev_ptK, ev_slT, ev_slS, ev_slR, ev_slK, ev_tyN, ev_tyB, ev_tyI, ev_tyS, ev_tyT, ev_tyL, ev_tyR, ev_tyRL, ev_isi, ev_isi1, ev_isi2, ev_isi3, ev_isi4, ev_isi5, ev_isiT, ev_isi2K, ev_isTy, ev_list, ev_listK, ev_tuple, ev_tupK, ev_getST, ev_getSR, ev_getSL, ev_all, ev_allK, ev_eqXI, ev_eqXS, ev_neXI, ev_neXS, ev_neXB, ev_eqXB, ev_eqXR, ev_neXR, ev_nil2, ev_eqK, ev_neK, ev_meth, ev_meth0, ev_mth1, ev_mth2, ev_mth3, ev_append, ev_m0, ev_m0K, ev_str, ev_for, ev_miR1, ev_rg1K, ev_miL, ev_liK, ev_miT, ev_tiK, ev_lc, ev_wipe0, ev_wipeS, ev_yes, ev_lenSet, ev_lenSetK, ev_listR, ev_lrK, ev_put2, ev_p2A, ev_p2K, ev_p2E, ev_put1, ev_pt1, ev_addXI, ev_addXB, ev_addXS, ev_addXT, ev_addXL, ev_subXI, ev_subXB, ev_mulXI, ev_mulXB, ev_mulXL, ev_negXI, ev_negXB, ev_strXI, ev_strXB, ev_mulYI, ev_mulYB, ev_mulYL, ev_mulYT, ev_dnew, ev_dnewT, ev_dgetE, ev_getD, ev_gD, ev_keyI, ev_keyS, ev_dgK, ev_dinE, ev_diK, ev_dputE, ev_dpK, ev_dget2E, ev_isDA, ev_isSome, ev_isNone, ev_dg2K, ev_dpop2E, ev_dp2K, ev_dp3S, ev_dp3N, ev_sortedE, ev_srO1, ev_srO2, ev_gLd, ev_srKS, ev_srKI, ev_gDT, ev_gT, ev_tinE, ev_tiKK, ev_keysA, ev_keysN, ev_keysC, ev_dputTE, ev_dptK, ev_dispE, ev_mpN, ev_mpC, ev_pcK, ev_dsK, ev_dsK2, ev_lc2E, ev_imp, ev_simp, ev_split, ev_splF, ev_splG, ev_fmt, ev_fmtS, ev_fmtI, ev_addK, ev_js0, ev_js1, ev_joined, ev_star, ev_starK, ev_each2, ev_each2K, ev_unl, ev_unlK, ev_intS, ev_strYS, ev_strYI, List.getElem?_cons_zero, List.getElem?_cons_succ, List.set_cons_zero, List.set_cons_succ, List.length_cons, List.length_nil, List.cons_append, List.nil_append, if_true, if_false, Bool.false_eq_true, Bool.true_eq_false, reduceIte, Bool.not_true, Bool.not_false, Bool.and_true, Bool.true_and, Bool.and_false, Bool.false_and, Bool.or_true, Bool.true_or, Bool.or_false, Bool.false_or, decide_eq_true_eq, Nat.reduceAdd, Nat.reduceLeDiff, Nat.zero_add, Int.reduceLT, Int.reduceLE, Int.reduceEq, Int.reduceNeg, Nat.reduceEqDiff, and_self, and_true, true_and, decide_true, decide_false, eq_self, ite_true, ite_false, Int.reduceSub, Int.reduceAdd, Int.cast_ofNat_Int, Int.natCast_add, Int.cast_ofNat_Int, Nat.reduceSub, Nat.add_assoc, String.reduceBEq, String.reduceEq, Bool.or_not_self, beq_self_eq_true, h1, f8]
      refine ⟨fs, cs, l, d, rfl, ⟨by rw [ef]; exact N3, ?_, fun q hq => ?_, by rw [ec]; exact N7, ?_, fun q hq => ?_, l1, l2, d1, d2⟩, ?_⟩
      · have : fs.length = ss.length := by rw [← ef, List.length_map]
        omega
      · obtain ⟨n, p, e1, e2, p1, p2⟩ := pf q hq
        cases e1
        cases e2
        exact ⟨p1, p2⟩
      · have : cs.length = ss'.length := by rw [← ec, List.length_map]
        omega
      · obtain ⟨n, r, a, e1, e2, p1, p2, p3, p4⟩ := pc q hq
        cases e1
        cases e2
        exact ⟨p1, p2, p3, p4⟩
      · exact ((((D1.app _).trans D2).trans D3).trans D4).trans D8

/-! ### texts: joined and taken apart, numbers written -/
def J (c : Nat) : List (List Nat) → List Nat
  | [] => []
  | [x] => x
  | x :: y :: r => x ++ c :: J c (y :: r)
theorem app_cps (a b : Str) : (a ++ b).cps.toList = a.cps.toList ++ b.cps.toList := by
  show (a.cps ++ b.cps).toList = _
  simp
theorem join_is (c : Nat) (ws : List Str) : Txt.join ⟨#[c]⟩ ws = Str.join ⟨#[c]⟩ ws := StrLaws.glued_eq_join _ _
theorem J_cps (c : Nat) : ∀ ws : List Str, (Str.join ⟨#[c]⟩ ws).cps.toList = J c (ws.map (·.cps.toList))
  | [] => rfl
  | [x] => rfl
  | x :: y :: r => by
    have ih := J_cps c (y :: r)
    show (x ++ (⟨#[c]⟩ : Str) ++ Str.join ⟨#[c]⟩ (y :: r)).cps.toList = x.cps.toList ++ c :: J c ((y :: r).map (·.cps.toList))
    rw [app_cps, app_cps, ih, List.append_assoc]
    rfl
theorem cut_eq {c : Nat} : ∀ {x y X Y : List Nat}, c ∉ x → c ∉ y → x ++ c :: X = y ++ c :: Y → x = y ∧ X = Y
  | [], [], _, _, _, _, e => by
    simp only [List.nil_append, List.cons.injEq, true_and] at e
    exact ⟨rfl, e⟩
  | [], b :: y, _, _, _, hy, e => by
    simp only [List.nil_append, List.cons_append, List.cons.injEq] at e
    exact absurd (e.1 ▸ List.mem_cons_self) hy
  | a :: x, [], _, _, hx, _, e => by
    simp only [List.nil_append, List.cons_append, List.cons.injEq] at e
    exact absurd (e.1 ▸ List.mem_cons_self) hx
  | a :: x, b :: y, X, Y, hx, hy, e => by
    simp only [List.cons_append, List.cons.injEq] at e
    obtain ⟨h1, h2⟩ := cut_eq (fun h => hx (List.mem_cons_of_mem _ h)) (fun h => hy (List.mem_cons_of_mem _ h)) e.2
    exact ⟨by rw [e.1, h1], h2⟩
theorem J_inj {c : Nat} : ∀ {us vs : List (List Nat)}, us ≠ [] → vs ≠ [] → (∀ u ∈ us, c ∉ u) → (∀ v ∈ vs, c ∉ v) → J c us = J c vs → us = vs
  | [], _, h, _, _, _, _ => absurd rfl h
  | _ :: _, [], _, h, _, _, _ => absurd rfl h
  | [x], [y], _, _, _, _, e => by
    have e : x = y := e
    rw [e]
  | [x], y :: y' :: r, _, _, hu, _, e => by
    have e : x = y ++ c :: J c (y' :: r) := e
    exact absurd (by rw [e]; simp) (hu x List.mem_cons_self)
  | x :: x' :: r, [y], _, _, _, hv, e => by
    have e : x ++ c :: J c (x' :: r) = y := e
    exact absurd (by rw [← e]; simp) (hv y List.mem_cons_self)
  | x :: x' :: r, y :: y' :: r', _, _, hu, hv, e => by
    have e : x ++ c :: J c (x' :: r) = y ++ c :: J c (y' :: r') := e
    obtain ⟨h1, h2⟩ := cut_eq (hu x List.mem_cons_self) (hv y List.mem_cons_self) e
    have := J_inj (us := x' :: r) (vs := y' :: r') (fun h => by cases h) (fun h => by cases h) (fun u hu' => hu u (List.mem_cons_of_mem _ hu')) (fun v hv' => hv v (List.mem_cons_of_mem _ hv')) h2
    rw [h1, this]
theorem str_inj {x y : Str} (h : x.cps.toList = y.cps.toList) : x = y := by
  cases x
  cases y
  have := Array.toList_inj.mp h
  simp only at this
  rw [this]
theorem maps_inj : ∀ {us vs : List Str}, us.map (·.cps.toList) = vs.map (·.cps.toList) → us = vs
  | [], [], _ => rfl
  | [], _ :: _, h => by cases h
  | _ :: _, [], h => by cases h
  | u :: us, v :: vs, h => by
    simp only [List.map_cons, List.cons.injEq] at h
    rw [str_inj h.1, maps_inj h.2]
theorem split_join {c : Nat} {ws : List Str} (h0 : ws ≠ []) (h : ∀ x ∈ ws, c ∉ x.cps.toList) : Txt.split (Txt.join ⟨#[c]⟩ ws) ⟨#[c]⟩ = ws := by
  have e := StrLaws.join_split (Txt.join ⟨#[c]⟩ ws) ⟨#[c]⟩
  have p := split_pos (Txt.join ⟨#[c]⟩ ws) ⟨#[c]⟩
  have f := StrLaws.split_free (Txt.join ⟨#[c]⟩ ws) c
  have e2 : (Str.join ⟨#[c]⟩ (Txt.split (Txt.join ⟨#[c]⟩ ws) ⟨#[c]⟩)).cps.toList = (Txt.join ⟨#[c]⟩ ws).cps.toList := congrArg (fun x : Str => x.cps.toList) e
  rw [join_is] at e2
  rw [J_cps, J_cps] at e2
  rw [join_is] at p f ⊢
  refine maps_inj (J_inj (c := c) (fun h => ?_) (fun h => ?_) (fun u hu => ?_) (fun v hv => ?_) e2)
  · rw [List.map_eq_nil_iff] at h
    rw [h] at p
    cases p
  · exact h0 (List.map_eq_nil_iff.mp h)
  · obtain ⟨x, hx, rfl⟩ := List.mem_map.mp hu
    exact f x hx
  · obtain ⟨x, hx, rfl⟩ := List.mem_map.mp hv
    exact h x hx
/-- a number, written -/
def nS (i : Int) : Str := toString i
def figs (x : Str) : Bool := decide (1 ≤ x.length) && decide (x.length ≤ 4) && x.cps.toList.all (fun c => decide (48 ≤ c) && decide (c ≤ 57)) && (!decide (x.cps.toList.head? = some 48) || decide (x = "0"))
theorem nums_ok : ∀ n < 1001, figs (nS (n : Nat)) = true ∧ PySem.intText? (nS (n : Nat)) = some ((n : Nat) : Int) := by decide +kernel

/-! ### the texts that are written -/
theorem ev_mjoin {f g : ME} {env : AEnv} {st : Sto} : mJoin f g env st = (f env st).bind (joinG g env) := rfl
theorem ev_joinG {g : ME} {env : AEnv} {s : Sto} {z : Str} : joinG g env (.str z) s = (g env s).bind fun a s => joinK z ((getS s a).bind strsOf) s := rfl
theorem ev_joinK {z : Str} {ys : List Str} {s : Sto} : joinK z (some ys) s = if (ys.map (·.length)).sum + ys.length * z.length ≤ 16777216 then .ok (.str (Txt.join z ys)) s else .no := rfl
theorem ev_sbind {xs : List A} : (some xs).bind strsOf = strsOf xs := rfl
def siK (a : A) (s : Sto) : Res (List A × (Sto → Prop)) := match a with
  | .str z => .ok (signs z, okT) s
  | _ => .no
theorem ev_miS {f : ME} {env : AEnv} {st : Sto} : miS f env st = (f env st).bind siK := rfl
theorem ev_siK {z : Str} {s : Sto} : siK (.str z) s = .ok (signs z, okT) s := rfl
def wordA : A → Str
  | .str x => x
  | .int i => nS i
  | _ => ""
def okItem (a : A) : Prop := (∃ x, a = .str x ∧ x.length ≤ 8) ∨ ∃ i : Int, a = .int i ∧ 0 ≤ i ∧ i ≤ 1000
def rowT (r : List A) : Str := Txt.join (Str.ofString ":") (r.map wordA)
def rowsT (rows : List (List A)) : Str := Txt.join (Str.ofString ",") (rows.map rowT)
theorem num_at {i : Int} (h0 : 0 ≤ i) (h1 : i ≤ 1000) : figs (nS i) = true ∧ PySem.intText? (nS i) = some i := by
  obtain ⟨n, rfl⟩ : ∃ n : Nat, i = (n : Int) := ⟨i.toNat, by omega⟩
  exact nums_ok n (by omega)
theorem figs_len {x : Str} (h : figs x = true) : 1 ≤ x.length ∧ x.length ≤ 4 := by
  unfold figs at h
  simp only [Bool.and_eq_true, decide_eq_true_eq] at h
  exact h.1.1
theorem word_len {a : A} (h : okItem a) : (wordA a).length ≤ 8 := by
  rcases h with ⟨x, rfl, h⟩ | ⟨i, rfl, h0, h1⟩
  · exact h
  · have := figs_len (num_at h0 h1).1
    show (nS i).length ≤ 8
    omega
theorem sum_le {f : A → Nat} {m : Nat} : ∀ {r : List A}, (∀ a ∈ r, f a ≤ m) → (r.map f).sum ≤ r.length * m
  | [], _ => Nat.zero_le _
  | a :: r, h => by
    have h1 := h a List.mem_cons_self
    have h2 := sum_le (r := r) fun b hb => h b (List.mem_cons_of_mem _ hb)
    simp only [List.map_cons, List.sum_cons, List.length_cons, Nat.succ_mul]
    omega
theorem lit_colon : (Str.ofString ":") = ⟨#[58]⟩ := by decide +kernel
theorem lit_comma : (Str.ofString ",") = ⟨#[44]⟩ := by decide +kernel
theorem lit_blank : (Str.ofString " ") = ⟨#[32]⟩ := by decide +kernel
theorem join_len (c : Nat) (ws : List Str) : (Txt.join ⟨#[c]⟩ ws).length ≤ (ws.map (·.length)).sum + ws.length := by
  rw [join_is]
  have := StrLaws.join_length_le ⟨#[c]⟩ ws
  have e : (⟨#[c]⟩ : Str).length = 1 := rfl
  rw [e, Nat.mul_one] at this
  exact this
theorem rowT_sum {r : List A} (hl : r.length ≤ 3) (h : ∀ a ∈ r, okItem a) : ((r.map wordA).map (·.length)).sum + (r.map wordA).length ≤ 27 := by
  have := sum_le (f := fun a => (wordA a).length) (m := 8) (r := r) fun a ha => word_len (h a ha)
  rw [List.map_map, List.length_map]
  have e : (List.map ((fun x : Str => x.length) ∘ wordA) r) = r.map fun a => (wordA a).length := rfl
  rw [e]
  omega
theorem rowT_len {r : List A} (hl : r.length ≤ 3) (h : ∀ a ∈ r, okItem a) : (rowT r).length ≤ 27 := by
  unfold rowT
  rw [lit_colon]
  exact Nat.le_trans (join_len _ _) (rowT_sum hl h)
theorem sum_le2 {α : Type} {f : α → Nat} {m : Nat} : ∀ {r : List α}, (∀ a ∈ r, f a ≤ m) → (r.map f).sum ≤ r.length * m
  | [], _ => Nat.zero_le _
  | a :: r, h => by
    have h1 := h a List.mem_cons_self
    have h2 := sum_le2 (r := r) fun b hb => h b (List.mem_cons_of_mem _ hb)
    simp only [List.map_cons, List.sum_cons, List.length_cons, Nat.succ_mul]
    omega
theorem rowsT_sum {rows : List (List A)} (h : ∀ r ∈ rows, r.length ≤ 3 ∧ ∀ a ∈ r, okItem a) (hl : rows.length ≤ 4) : ((rows.map rowT).map (·.length)).sum + (rows.map rowT).length ≤ 112 := by
  have := sum_le2 (f := fun r => (rowT r).length) (m := 27) (r := rows) fun r hr => rowT_len (h r hr).1 (h r hr).2
  rw [List.map_map, List.length_map]
  have e : (List.map ((fun x : Str => x.length) ∘ rowT) rows) = rows.map fun r => (rowT r).length := rfl
  rw [e]
  omega
theorem rowsT_len {rows : List (List A)} (h : ∀ r ∈ rows, r.length ≤ 3 ∧ ∀ a ∈ r, okItem a) (hl : rows.length ≤ 4) : (rowsT rows).length ≤ 112 := by
  unfold rowsT
  rw [lit_comma]
  exact Nat.le_trans (join_len _ _) (rowsT_sum h hl)
theorem small_log {i : Int} (h0 : 0 ≤ i) (h1 : i ≤ 1000) : i.natAbs.log2 < 1920 := log_small (k := 1920) (Nat.lt_of_le_of_lt (show i.natAbs ≤ 1000 by omega) (by decide +kernel)) (by decide)
def rowF : A → A
  | .tup r => .str (rowT r)
  | _ => .non
theorem rowsText_wp {S : Sto} {rows : List (List A)} (h : ∀ r ∈ rows, r.length ≤ 3 ∧ ∀ a ∈ r, okItem a) (hl : rows.length ≤ 4) : okR (m_rows_text [.tup (rows.map A.tup)] S) fun y t => y = .str (rowsT rows) ∧ ∃ l, t = S ++ l := by
  rw [st_rows_text]
  unfold b_rows_text
  simp only [wp_okR, wp_okF, wp_fin, wp_next, wp_then, wp_bind, wp_nox, wp_tK, wp_bK, wp_fr, wp_fn, wp_nn, wp_nr, wp_nb, wp_nc, wp_ln, wp_lc, wp_lb, wp_lr, wp_jn, wp_jc, ev_bok, ev_bno, ev_bex, ev_tok, ev_tno, ev_tex, ev_nnx, ev_nrt, ev_nbk, ev_nct, ev_nex, ev_nno, ev_frt, ev_fnx, ev_fex, ev_xok, ev_lsome, ev_lnone, ev_seq, ev_if, ev_ret, ev_retN, ev_drop, ev_nop, ev_brk, ev_cont, ev_asgN, ev_asgT, ev_asgO, ev_mgTup, ev_mgN, ev_mgC, ev_mg0, ev_putL, ev_putO, ev_var, ev_vr, ev_c, ev_op, ev_un, ev_test, ev_tb, ev_notT, ev_andT, ev_orT, ev_ifE, ev_not, ev_nb, ev_and, ev_andK, ev_or, ev_orK, ev_chain, ev_chK, ev_nil, ev_cons, ev_tup, ev_lst, ev_new, ev_call, ev_cb, ev_size, ev_addI, ev_addS, ev_addT, ev_addL, ev_catO, ev_sub, ev_mul, ev_div, ev_mod, ev_p5, ev_p6, ev_p12, ev_p18, ev_p30, ev_neg, ev_ltI, ev_ltS, ev_leI, ev_leS, ev_gt, ev_ge, ev_eqI, ev_eqS, ev_neI, ev_neS, ev_neB, ev_eqB, ev_is, ev_isnot, ev_ixT, ev_ixS, ev_ixR, ev_ixL, ev_ixK, ev_getL, ev_getM, ev_gL, ev_gM, ev_at0, ev_at1, ev_at2, ev_at3, ev_at4, ev_lenS, ev_lenR, ev_lenT, ev_lenL, ev_lenO, ev_lenD, ev_abs, ev_min2, ev_max2, ev_intI, ev_intB, ev_set, ev_fc, ev_setset, ev_last, ev_appk, ev_app0, ev_setk, ev_set0, ev_assoc, ev_lapp, ev_lappA, ev_sl, ev_nopart, ev_part, ev_ptK, ev_slT, ev_slS, ev_slR, ev_slK, ev_tyN, ev_tyB, ev_tyI, ev_tyS, ev_tyT, ev_tyL, ev_tyR, ev_tyRL, ev_isi, ev_isi1, ev_isi2, ev_isi3, ev_isi4, ev_isi5, ev_isiT, ev_isi2K, ev_isTy, ev_list, ev_listK, ev_tuple, ev_tupK, ev_getST, ev_getSR, ev_getSL, ev_all, ev_allK, ev_eqXI, ev_eqXS, ev_neXI, ev_neXS, ev_neXB, ev_eqXB, ev_eqXR, ev_neXR, ev_nil2, ev_eqK, ev_neK, ev_meth, ev_meth0, ev_mth1, ev_mth2, ev_mth3, ev_append, ev_m0, ev_m0K, ev_str, ev_for, ev_miR1, ev_rg1K, ev_miL, ev_liK, ev_miT, ev_tiK, ev_lc, ev_wipe0, ev_wipeS, ev_yes, ev_lenSet, ev_lenSetK, ev_listR, ev_lrK, ev_put2, ev_p2A, ev_p2K, ev_p2E, ev_put1, ev_pt1, ev_addXI, ev_addXB, ev_addXS, ev_addXT, ev_addXL, ev_subXI, ev_subXB, ev_mulXI, ev_mulXB, ev_mulXL, ev_negXI, ev_negXB, ev_strXI, ev_strXB, ev_mulYI, ev_mulYB, ev_mulYL, ev_mulYT, ev_dnew, ev_dnewT, ev_dgetE, ev_getD, ev_gD, ev_keyI, ev_keyS, ev_dgK, ev_dinE, ev_diK, ev_dputE, ev_dpK, ev_dget2E, ev_isDA, ev_isSome, ev_isNone, ev_dg2K, ev_dpop2E, ev_dp2K, ev_dp3S, ev_dp3N, ev_sortedE, ev_srO1, ev_srO2, ev_gLd, ev_srKS, ev_srKI, ev_gDT, ev_gT, ev_tinE, ev_tiKK, ev_keysA, ev_keysN, ev_keysC, ev_dputTE, ev_dptK, ev_dispE, ev_mpN, ev_mpC, ev_pcK, ev_dsK, ev_dsK2, ev_lc2E, ev_imp, ev_simp, ev_split, ev_splF, ev_splG, ev_fmt, ev_fmtS, ev_fmtI, ev_addK, ev_js0, ev_js1, ev_joined, ev_star, ev_starK, ev_each2, ev_each2K, ev_unl, ev_unlK, ev_intS, ev_strYS, ev_strYI, ev_mjoin, ev_joinG, ev_joinK, ev_sbind, ev_miS, ev_siK, List.getElem?_cons_zero, List.getElem?_cons_succ, List.set_cons_zero, List.set_cons_succ, List.length_cons, List.length_nil, List.cons_append, List.nil_append, if_true, if_false, Bool.false_eq_true, Bool.true_eq_false, reduceIte, Bool.not_true, Bool.not_false, Bool.and_true, Bool.true_and, Bool.and_false, Bool.false_and, Bool.or_true, Bool.true_or, Bool.or_false, Bool.false_or, decide_eq_true_eq, Nat.reduceAdd, Nat.reduceLeDiff, Nat.zero_add, Int.reduceLT, Int.reduceLE, Int.reduceEq, Int.reduceNeg, Nat.reduceEqDiff, and_self, and_true, true_and, decide_true, decide_false, eq_self, ite_true, ite_false, Int.reduceSub, Int.reduceAdd, Int.cast_ofNat_Int, Int.natCast_add, Int.cast_ofNat_Int, Nat.reduceSub, Nat.add_assoc, String.reduceBEq, String.reduceEq, Bool.or_not_self, beq_self_eq_true]
  refine lc_M rowF (fun _ => trivial) (by rw [List.length_map]; omega) (fun x hx => ?_) (fun l' => ?_)
  · obtain ⟨r, hr, rfl⟩ := List.mem_map.mp hx
    obtain ⟨h1, h2⟩ := h r hr
    refine ⟨_, rfl, fun l => ?_⟩
    obtain ⟨T, hT⟩ : ∃ T, T = S ++ l := ⟨_, rfl⟩
    rw [← hT]
    simp only [wp_okR, wp_okF, wp_fin, wp_next, wp_then, wp_bind, wp_nox, wp_tK, wp_bK, wp_fr, wp_fn, wp_nn, wp_nr, wp_nb, wp_nc, wp_ln, wp_lc, wp_lb, wp_lr, wp_jn, wp_jc, ev_bok, ev_bno, ev_bex, ev_tok, ev_tno, ev_tex, ev_nnx, ev_nrt, ev_nbk, ev_nct, ev_nex, ev_nno, ev_frt, ev_fnx, ev_fex, ev_xok, ev_lsome, ev_lnone, ev_seq, ev_if, ev_ret, ev_retN, ev_drop, ev_nop, ev_brk, ev_cont, ev_asgN, ev_asgT, ev_asgO, ev_mgTup, ev_mgN, ev_mgC, ev_mg0, ev_putL, ev_putO, ev_var, ev_vr, ev_c, ev_op, ev_un, ev_test, ev_tb, ev_notT, ev_andT, ev_orT, ev_ifE, ev_not, ev_nb, ev_and, ev_andK, ev_or, ev_orK, ev_chain, ev_chK, ev_nil, ev_cons, ev_tup, ev_lst, ev_new, ev_call, ev_cb, ev_size, ev_addI, ev_addS, ev_addT, ev_addL, ev_catO, ev_sub, ev_mul, ev_div, ev_mod, ev_p5, ev_p6, ev_p12, ev_p18, ev_p30, ev_neg, ev_ltI, ev_ltS, ev_leI, ev_leS, ev_gt, ev_ge, ev_eqI, ev_eqS, ev_neI, ev_neS, ev_neB, ev_eqB, ev_is, ev_isnot, ev_ixT, ev_ixS, ev_ixR, ev_ixL, ev_ixK, ev_getL, ev_getM, ev_gL, ev_gM, ev_at0, ev_at1, ev_at2, ev_at3, ev_at4, ev_lenS, ev_lenR, ev_lenT, ev_lenL, ev_lenO, ev_lenD, ev_abs, ev_min2, ev_max2, ev_intI, ev_intB, ev_set, ev_fc, ev_setset, ev_last, ev_appk, ev_app0, ev_setk, ev_set0, ev_assoc, ev_lapp, ev_lappA, ev_sl, ev_nopart, ev_part, ev_ptK, ev_slT, ev_slS, ev_slR, ev_slK, ev_tyN, ev_tyB, ev_tyI, ev_tyS, ev_tyT, ev_tyL, ev_tyR, ev_tyRL, ev_isi, ev_isi1, ev_isi2, ev_isi3, ev_isi4, ev_isi5, ev_isiT, ev_isi2K, ev_isTy, ev_list, ev_listK, ev_tuple, ev_tupK, ev_getST, ev_getSR, ev_getSL, ev_all, ev_allK, ev_eqXI, ev_eqXS, ev_neXI, ev_neXS, ev_neXB, ev_eqXB, ev_eqXR, ev_neXR, ev_nil2, ev_eqK, ev_neK, ev_meth, ev_meth0, ev_mth1, ev_mth2, ev_mth3, ev_append, ev_m0, ev_m0K, ev_str, ev_for, ev_miR1, ev_rg1K, ev_miL, ev_liK, ev_miT, ev_tiK, ev_lc, ev_wipe0, ev_wipeS, ev_yes, ev_lenSet, ev_lenSetK, ev_listR, ev_lrK, ev_put2, ev_p2A, ev_p2K, ev_p2E, ev_put1, ev_pt1, ev_addXI, ev_addXB, ev_addXS, ev_addXT, ev_addXL, ev_subXI, ev_subXB, ev_mulXI, ev_mulXB, ev_mulXL, ev_negXI, ev_negXB, ev_strXI, ev_strXB, ev_mulYI, ev_mulYB, ev_mulYL, ev_mulYT, ev_dnew, ev_dnewT, ev_dgetE, ev_getD, ev_gD, ev_keyI, ev_keyS, ev_dgK, ev_dinE, ev_diK, ev_dputE, ev_dpK, ev_dget2E, ev_isDA, ev_isSome, ev_isNone, ev_dg2K, ev_dpop2E, ev_dp2K, ev_dp3S, ev_dp3N, ev_sortedE, ev_srO1, ev_srO2, ev_gLd, ev_srKS, ev_srKI, ev_gDT, ev_gT, ev_tinE, ev_tiKK, ev_keysA, ev_keysN, ev_keysC, ev_dputTE, ev_dptK, ev_dispE, ev_mpN, ev_mpC, ev_pcK, ev_dsK, ev_dsK2, ev_lc2E, ev_imp, ev_simp, ev_split, ev_splF, ev_splG, ev_fmt, ev_fmtS, ev_fmtI, ev_addK, ev_js0, ev_js1, ev_joined, ev_star, ev_starK, ev_each2, ev_each2K, ev_unl, ev_unlK, ev_intS, ev_strYS, ev_strYI, ev_mjoin, ev_joinG, ev_joinK, ev_sbind, ev_miS, ev_siK, List.getElem?_cons_zero, List.getElem?_cons_succ, List.set_cons_zero, List.set_cons_succ, List.length_cons, List.length_nil, List.cons_append, List.nil_append, if_true, if_false, Bool.false_eq_true, Bool.true_eq_false, reduceIte, Bool.not_true, Bool.not_false, Bool.and_true, Bool.true_and, Bool.and_false, Bool.false_and, Bool.or_true, Bool.true_or, Bool.or_false, Bool.false_or, decide_eq_true_eq, Nat.reduceAdd, Nat.reduceLeDiff, Nat.zero_add, Int.reduceLT, Int.reduceLE, Int.reduceEq, Int.reduceNeg, Nat.reduceEqDiff, and_self, and_true, true_and, decide_true, decide_false, eq_self, ite_true, ite_false, Int.reduceSub, Int.reduceAdd, Int.cast_ofNat_Int, Int.natCast_add, Int.cast_ofNat_Int, Nat.reduceSub, Nat.add_assoc, String.reduceBEq, String.reduceEq, Bool.or_not_self, beq_self_eq_true]
    refine lc_P (fun a => .str (wordA a)) (fun _ => trivial) (by omega) (fun y hy => ?_) ?_
    · refine ⟨_, rfl, fun l => ?_⟩
      rcases h2 y hy with ⟨x, rfl, hx⟩ | ⟨i, rfl, i0, i1⟩
      · simp only [wp_okR, wp_okF, wp_fin, wp_next, wp_then, wp_bind, wp_nox, wp_tK, wp_bK, wp_fr, wp_fn, wp_nn, wp_nr, wp_nb, wp_nc, wp_ln, wp_lc, wp_lb, wp_lr, wp_jn, wp_jc, ev_bok, ev_bno, ev_bex, ev_tok, ev_tno, ev_tex, ev_nnx, ev_nrt, ev_nbk, ev_nct, ev_nex, ev_nno, ev_frt, ev_fnx, ev_fex, ev_xok, ev_lsome, ev_lnone, ev_seq, ev_if, ev_ret, ev_retN, ev_drop, ev_nop, ev_brk, ev_cont, ev_asgN, ev_asgT, ev_asgO, ev_mgTup, ev_mgN, ev_mgC, ev_mg0, ev_putL, ev_putO, ev_var, ev_vr, ev_c, ev_op, ev_un, ev_test, ev_tb, ev_notT, ev_andT, ev_orT, ev_ifE, ev_not, ev_nb, ev_and, ev_andK, ev_or, ev_orK, ev_chain, ev_chK, ev_nil, ev_cons, ev_tup, ev_lst, ev_new, ev_call, ev_cb, ev_size, ev_addI, ev_addS, ev_addT, ev_addL, ev_catO, ev_sub, ev_mul, ev_div, ev_mod, ev_p5, ev_p6, ev_p12, ev_p18, ev_p30, ev_neg, ev_ltI, ev_ltS, ev_leI, ev_leS, ev_gt, ev_ge, ev_eqI, ev_eqS, ev_neI, ev_neS, ev_neB, ev_eqB, ev_is, ev_isnot, ev_ixT, ev_ixS, ev_ixR, ev_ixL, ev_ixK, ev_getL, ev_getM, ev_gL, ev_gM, ev_at0, ev_at1, ev_at2, ev_at3, ev_at4, ev_lenS, ev_lenR, ev_lenT, ev_lenL, ev_lenO, ev_lenD, ev_abs, ev_min2, ev_max2, ev_intI, ev_intB, ev_set, ev_fc, ev_setset, ev_last, ev_appk, ev_app0, ev_setk, ev_set0, ev_assoc, ev_lapp, ev_lappA, ev_sl, ev_nopart, ev_part, ev_ptK, ev_slT, ev_slS, ev_slR, ev_slK, ev_tyN, ev_tyB, ev_tyI, ev_tyS, ev_tyT, ev_tyL, ev_tyR, ev_tyRL, ev_isi, ev_isi1, ev_isi2, ev_isi3, ev_isi4, ev_isi5, ev_isiT, ev_isi2K, ev_isTy, ev_list, ev_listK, ev_tuple, ev_tupK, ev_getST, ev_getSR, ev_getSL, ev_all, ev_allK, ev_eqXI, ev_eqXS, ev_neXI, ev_neXS, ev_neXB, ev_eqXB, ev_eqXR, ev_neXR, ev_nil2, ev_eqK, ev_neK, ev_meth, ev_meth0, ev_mth1, ev_mth2, ev_mth3, ev_append, ev_m0, ev_m0K, ev_str, ev_for, ev_miR1, ev_rg1K, ev_miL, ev_liK, ev_miT, ev_tiK, ev_lc, ev_wipe0, ev_wipeS, ev_yes, ev_lenSet, ev_lenSetK, ev_listR, ev_lrK, ev_put2, ev_p2A, ev_p2K, ev_p2E, ev_put1, ev_pt1, ev_addXI, ev_addXB, ev_addXS, ev_addXT, ev_addXL, ev_subXI, ev_subXB, ev_mulXI, ev_mulXB, ev_mulXL, ev_negXI, ev_negXB, ev_strXI, ev_strXB, ev_mulYI, ev_mulYB, ev_mulYL, ev_mulYT, ev_dnew, ev_dnewT, ev_dgetE, ev_getD, ev_gD, ev_keyI, ev_keyS, ev_dgK, ev_dinE, ev_diK, ev_dputE, ev_dpK, ev_dget2E, ev_isDA, ev_isSome, ev_isNone, ev_dg2K, ev_dpop2E, ev_dp2K, ev_dp3S, ev_dp3N, ev_sortedE, ev_srO1, ev_srO2, ev_gLd, ev_srKS, ev_srKI, ev_gDT, ev_gT, ev_tinE, ev_tiKK, ev_keysA, ev_keysN, ev_keysC, ev_dputTE, ev_dptK, ev_dispE, ev_mpN, ev_mpC, ev_pcK, ev_dsK, ev_dsK2, ev_lc2E, ev_imp, ev_simp, ev_split, ev_splF, ev_splG, ev_fmt, ev_fmtS, ev_fmtI, ev_addK, ev_js0, ev_js1, ev_joined, ev_star, ev_starK, ev_each2, ev_each2K, ev_unl, ev_unlK, ev_intS, ev_strYS, ev_strYI, ev_mjoin, ev_joinG, ev_joinK, ev_sbind, ev_miS, ev_siK, List.getElem?_cons_zero, List.getElem?_cons_succ, List.set_cons_zero, List.set_cons_succ, List.length_cons, List.length_nil, List.cons_append, List.nil_append, if_true, if_false, Bool.false_eq_true, Bool.true_eq_false, reduceIte, Bool.not_true, Bool.not_false, Bool.and_true, Bool.true_and, Bool.and_false, Bool.false_and, Bool.or_true, Bool.true_or, Bool.or_false, Bool.false_or, decide_eq_true_eq, Nat.reduceAdd, Nat.reduceLeDiff, Nat.zero_add, Int.reduceLT, Int.reduceLE, Int.reduceEq, Int.reduceNeg, Nat.reduceEqDiff, and_self, and_true, true_and, decide_true, decide_false, eq_self, ite_true, ite_false, Int.reduceSub, Int.reduceAdd, Int.cast_ofNat_Int, Int.natCast_add, Int.cast_ofNat_Int, Nat.reduceSub, Nat.add_assoc, String.reduceBEq, String.reduceEq, Bool.or_not_self, beq_self_eq_true, wordA]
      · have := small_log i0 i1
        simp only [wp_okR, wp_okF, wp_fin, wp_next, wp_then, wp_bind, wp_nox, wp_tK, wp_bK, wp_fr, wp_fn, wp_nn, wp_nr, wp_nb, wp_nc, wp_ln, wp_lc, wp_lb, wp_lr, wp_jn, wp_jc, ev_bok, ev_bno, ev_bex, ev_tok, ev_tno, ev_tex, ev_nnx, ev_nrt, ev_nbk, ev_nct, ev_nex, ev_nno, ev_frt, ev_fnx, ev_fex, ev_xok, ev_lsome, ev_lnone, ev_seq, ev_if, ev_ret, ev_retN, ev_drop, ev_nop, ev_brk, ev_cont, ev_asgN, ev_asgT, ev_asgO, ev_mgTup, ev_mgN, ev_mgC, ev_mg0, ev_putL, ev_putO, ev_var, ev_vr, ev_c, ev_op, ev_un, ev_test, ev_tb, ev_notT, ev_andT, ev_orT, ev_ifE, ev_not, ev_nb, ev_and, ev_andK, ev_or, ev_orK, ev_chain, ev_chK, ev_nil, ev_cons, ev_tup, ev_lst, ev_new, ev_call, ev_cb, ev_size, ev_addI, ev_addS, ev_addT, ev_addL, ev_catO, ev_sub, ev_mul, ev_div, ev_mod, ev_p5, ev_p6, ev_p12, ev_p18, ev_p30, ev_neg, ev_ltI, ev_ltS, ev_leI, ev_leS, ev_gt, ev_ge, ev_eqI, ev_eqS, ev_neI, ev_neS, ev_neB, ev_eqB, ev_is, ev_isnot, ev_ixT, ev_ixS, ev_ixR, ev_ixL, ev_ixK, ev_getL, ev_getM, ev_gL, ev_gM, ev_at0, ev_at1, ev_at2, ev_at3, ev_at4, ev_lenS, ev_lenR, ev_lenT, ev_lenL, ev_lenO, ev_lenD, ev_abs, ev_min2, ev_max2, ev_intI, ev_intB, ev_set, ev_fc, ev_setset, ev_last, ev_appk, ev_app0, ev_setk, ev_set0, ev_assoc, ev_lapp, ev_lappA, ev_sl, ev_nopart, ev_part, ev_ptK, ev_slT, ev_slS, ev_slR, ev_slK, ev_tyN, ev_tyB, ev_tyI, ev_tyS, ev_tyT, ev_tyL, ev_tyR, ev_tyRL, ev_isi, ev_isi1, ev_isi2, ev_isi3, ev_isi4, ev_isi5, ev_isiT, ev_isi2K, ev_isTy, ev_list, ev_listK, ev_tuple, ev_tupK, ev_getST, ev_getSR, ev_getSL, ev_all, ev_allK, ev_eqXI, ev_eqXS, ev_neXI, ev_neXS, ev_neXB, ev_eqXB, ev_eqXR, ev_neXR, ev_nil2, ev_eqK, ev_neK, ev_meth, ev_meth0, ev_mth1, ev_mth2, ev_mth3, ev_append, ev_m0, ev_m0K, ev_str, ev_for, ev_miR1, ev_rg1K, ev_miL, ev_liK, ev_miT, ev_tiK, ev_lc, ev_wipe0, ev_wipeS, ev_yes, ev_lenSet, ev_lenSetK, ev_listR, ev_lrK, ev_put2, ev_p2A, ev_p2K, ev_p2E, ev_put1, ev_pt1, ev_addXI, ev_addXB, ev_addXS, ev_addXT, ev_addXL, ev_subXI, ev_subXB, ev_mulXI, ev_mulXB, ev_mulXL, ev_negXI, ev_negXB, ev_strXI, ev_strXB, ev_mulYI, ev_mulYB, ev_mulYL, ev_mulYT, ev_dnew, ev_dnewT, ev_dgetE, ev_getD, ev_gD, ev_keyI, ev_keyS, ev_dgK, ev_dinE, ev_diK, ev_dputE, ev_dpK, ev_dget2E, ev_isDA, ev_isSome, ev_isNone, ev_dg2K, ev_dpop2E, ev_dp2K, ev_dp3S, ev_dp3N, ev_sortedE, ev_srO1, ev_srO2, ev_gLd, ev_srKS, ev_srKI, ev_gDT, ev_gT, ev_tinE, ev_tiKK, ev_keysA, ev_keysN, ev_keysC, ev_dputTE, ev_dptK, ev_dispE, ev_mpN, ev_mpC, ev_pcK, ev_dsK, ev_dsK2, ev_lc2E, ev_imp, ev_simp, ev_split, ev_splF, ev_splG, ev_fmt, ev_fmtS, ev_fmtI, ev_addK, ev_js0, ev_js1, ev_joined, ev_star, ev_starK, ev_each2, ev_each2K, ev_unl, ev_unlK, ev_intS, ev_strYS, ev_strYI, ev_mjoin, ev_joinG, ev_joinK, ev_sbind, ev_miS, ev_siK, List.getElem?_cons_zero, List.getElem?_cons_succ, List.set_cons_zero, List.set_cons_succ, List.length_cons, List.length_nil, List.cons_append, List.nil_append, if_true, if_false, Bool.false_eq_true, Bool.true_eq_false, reduceIte, Bool.not_true, Bool.not_false, Bool.and_true, Bool.true_and, Bool.and_false, Bool.false_and, Bool.or_true, Bool.true_or, Bool.or_false, Bool.false_or, decide_eq_true_eq, Nat.reduceAdd, Nat.reduceLeDiff, Nat.zero_add, Int.reduceLT, Int.reduceLE, Int.reduceEq, Int.reduceNeg, Nat.reduceEqDiff, and_self, and_true, true_and, decide_true, decide_false, eq_self, ite_true, ite_false, Int.reduceSub, Int.reduceAdd, Int.cast_ofNat_Int, Int.natCast_add, Int.cast_ofNat_Int, Nat.reduceSub, Nat.add_assoc, String.reduceBEq, String.reduceEq, Bool.or_not_self, beq_self_eq_true, wordA, this, nS]
    · have e : strsOf (r.map fun a => A.str (wordA a)) = some (r.map wordA) := by
        rw [← strsOf_map, List.map_map]
        rfl
      have hz := rowT_sum h1 h2
      have hz2 : (List.map (fun x : Str => x.length) (List.map wordA r)).sum + (List.map wordA r).length * (Str.ofString ":").length ≤ 16777216 := by
        rw [show (Str.ofString ":").length = 1 by decide +kernel]
        omega
      simp only [wp_okR, wp_okF, wp_fin, wp_next, wp_then, wp_bind, wp_nox, wp_tK, wp_bK, wp_fr, wp_fn, wp_nn, wp_nr, wp_nb, wp_nc, wp_ln, wp_lc, wp_lb, wp_lr, wp_jn, wp_jc, ev_bok, ev_bno, ev_bex, ev_tok, ev_tno, ev_tex, ev_nnx, ev_nrt, ev_nbk, ev_nct, ev_nex, ev_nno, ev_frt, ev_fnx, ev_fex, ev_xok, ev_lsome, ev_lnone, ev_seq, ev_if, ev_ret, ev_retN, ev_drop, ev_nop, ev_brk, ev_cont, ev_asgN, ev_asgT, ev_asgO, ev_mgTup, ev_mgN, ev_mgC, ev_mg0, ev_putL, ev_putO, ev_var, ev_vr, ev_c, ev_op, ev_un, ev_test, ev_tb, ev_notT, ev_andT, ev_orT, ev_ifE, ev_not, ev_nb, ev_and, ev_andK, ev_or, ev_orK, ev_chain, ev_chK, ev_nil, ev_cons, ev_tup, ev_lst, ev_new, ev_call, ev_cb, ev_size, ev_addI, ev_addS, ev_addT, ev_addL, ev_catO, ev_sub, ev_mul, ev_div, ev_mod, ev_p5, ev_p6, ev_p12, ev_p18, ev_p30, ev_neg, ev_ltI, ev_ltS, ev_leI, ev_leS, ev_gt, ev_ge, ev_eqI, ev_eqS, ev_neI, ev_neS, ev_neB, ev_eqB, ev_is, ev_isnot, ev_ixT, ev_ixS, ev_ixR, ev_ixL, ev_ixK, ev_getL, ev_getM, ev_gL, ev_gM, ev_at0, ev_at1, ev_at2, ev_at3, ev_at4, ev_lenS, ev_lenR, ev_lenT, ev_lenL, ev_lenO, ev_lenD, ev_abs, ev_min2, ev_max2, ev_intI, ev_intB, ev_set, ev_fc, ev_setset, ev_last, ev_appk, ev_app0, ev_setk, ev_set0, ev_assoc, ev_lapp, ev_lappA, ev_sl, ev_nopart, ev_part, ev_ptK, ev_slT, ev_slS, ev_slR, ev_slK, ev_tyN, ev_tyB, ev_tyI, ev_tyS, ev_tyT, ev_tyL, ev_tyR, ev_tyRL, ev_isi, ev_isi1, ev_isi2, ev_isi3, ev_isi4, ev_isi5, ev_isiT, ev_isi2K, ev_isTy, ev_list, ev_listK, ev_tuple, ev_tupK, ev_getST, ev_getSR, ev_getSL, ev_all, ev_allK, ev_eqXI, ev_eqXS, ev_neXI, ev_neXS, ev_neXB, ev_eqXB, ev_eqXR, ev_neXR, ev_nil2, ev_eqK, ev_neK, ev_meth, ev_meth0, ev_mth1, ev_mth2, ev_mth3, ev_append, ev_m0, ev_m0K, ev_str, ev_for, ev_miR1, ev_rg1K, ev_miL, ev_liK, ev_miT, ev_tiK, ev_lc, ev_wipe0, ev_wipeS, ev_yes, ev_lenSet, ev_lenSetK, ev_listR, ev_lrK, ev_put2, ev_p2A, ev_p2K, ev_p2E, ev_put1, ev_pt1, ev_addXI, ev_addXB, ev_addXS, ev_addXT, ev_addXL, ev_subXI, ev_subXB, ev_mulXI, ev_mulXB, ev_mulXL, ev_negXI, ev_negXB, ev_strXI, ev_strXB, ev_mulYI, ev_mulYB, ev_mulYL, ev_mulYT, ev_dnew, ev_dnewT, ev_dgetE, ev_getD, ev_gD, ev_keyI, ev_keyS, ev_dgK, ev_dinE, ev_diK, ev_dputE, ev_dpK, ev_dget2E, ev_isDA, ev_isSome, ev_isNone, ev_dg2K, ev_dpop2E, ev_dp2K, ev_dp3S, ev_dp3N, ev_sortedE, ev_srO1, ev_srO2, ev_gLd, ev_srKS, ev_srKI, ev_gDT, ev_gT, ev_tinE, ev_tiKK, ev_keysA, ev_keysN, ev_keysC, ev_dputTE, ev_dptK, ev_dispE, ev_mpN, ev_mpC, ev_pcK, ev_dsK, ev_dsK2, ev_lc2E, ev_imp, ev_simp, ev_split, ev_splF, ev_splG, ev_fmt, ev_fmtS, ev_fmtI, ev_addK, ev_js0, ev_js1, ev_joined, ev_star, ev_starK, ev_each2, ev_each2K, ev_unl, ev_unlK, ev_intS, ev_strYS, ev_strYI, ev_mjoin, ev_joinG, ev_joinK, ev_sbind, ev_miS, ev_siK, List.getElem?_cons_zero, List.getElem?_cons_succ, List.set_cons_zero, List.set_cons_succ, List.length_cons, List.length_nil, List.cons_append, List.nil_append, if_true, if_false, Bool.false_eq_true, Bool.true_eq_false, reduceIte, Bool.not_true, Bool.not_false, Bool.and_true, Bool.true_and, Bool.and_false, Bool.false_and, Bool.or_true, Bool.true_or, Bool.or_false, Bool.false_or, decide_eq_true_eq, Nat.reduceAdd, Nat.reduceLeDiff, Nat.zero_add, Int.reduceLT, Int.reduceLE, Int.reduceEq, Int.reduceNeg, Nat.reduceEqDiff, and_self, and_true, true_and, decide_true, decide_false, eq_self, ite_true, ite_false, Int.reduceSub, Int.reduceAdd, Int.cast_ofNat_Int, Int.natCast_add, Int.cast_ofNat_Int, Nat.reduceSub, Nat.add_assoc, String.reduceBEq, String.reduceEq, Bool.or_not_self, beq_self_eq_true, e, hz2]
      exact ⟨rfl, _, by rw [hT, List.append_assoc]⟩
  · have e : strsOf ((rows.map A.tup).map rowF) = some (rows.map rowT) := by
      rw [← strsOf_map, List.map_map, List.map_map]
      rfl
    have hz := rowsT_sum h hl
    have hz2 : (List.map (fun x : Str => x.length) (List.map rowT rows)).sum + (List.map rowT rows).length * (Str.ofString ",").length ≤ 16777216 := by
      rw [show (Str.ofString ",").length = 1 by decide +kernel]
      omega
    simp only [wp_okR, wp_okF, wp_fin, wp_next, wp_then, wp_bind, wp_nox, wp_tK, wp_bK, wp_fr, wp_fn, wp_nn, wp_nr, wp_nb, wp_nc, wp_ln, wp_lc, wp_lb, wp_lr, wp_jn, wp_jc, ev_bok, ev_bno, ev_bex, ev_tok, ev_tno, ev_tex, ev_nnx, ev_nrt, ev_nbk, ev_nct, ev_nex, ev_nno, ev_frt, ev_fnx, ev_fex, ev_xok, ev_lsome, ev_lnone, ev_seq, ev_if, ev_ret, ev_retN, ev_drop, ev_nop, ev_brk, ev_cont, ev_asgN, ev_asgT, ev_asgO, ev_mgTup, ev_mgN, ev_mgC, ev_mg0, ev_putL, ev_putO, ev_var, ev_vr, ev_c, ev_op, ev_un, ev_test, ev_tb, ev_notT, ev_andT, ev_orT, ev_ifE, ev_not, ev_nb, ev_and, ev_andK, ev_or, ev_orK, ev_chain, ev_chK, ev_nil, ev_cons, ev_tup, ev_lst, ev_new, ev_call, ev_cb, ev_size, ev_addI, ev_addS, ev_addT, ev_addL, ev_catO, ev_sub, ev_mul, ev_div, ev_mod, ev_p5, ev_p6, ev_p12, ev_p18, ev_p30, ev_neg, ev_ltI, ev_ltS, ev_leI, ev_leS, ev_gt, ev_ge, ev_eqI, ev_eqS, ev_neI, ev_neS, ev_neB, ev_eqB, ev_is, ev_isnot, ev_ixT, ev_ixS, ev_ixR, ev_ixL, ev_ixK, ev_getL, ev_getM, ev_gL, ev_gM, ev_at0, ev_at1, ev_at2, ev_at3, ev_at4, ev_lenS, ev_lenR, ev_lenT, ev_lenL, ev_lenO, ev_lenD, ev_abs, ev_min2, ev_max2, ev_intI, ev_intB, ev_set, ev_fc, ev_setset, ev_last, ev_appk, ev_app0, ev_setk, ev_set0, ev_assoc, ev_lapp, ev_lappA, ev_sl, ev_nopart, ev_part, ev_ptK, ev_slT, ev_slS, ev_slR, ev_slK, ev_tyN, ev_tyB, ev_tyI, ev_tyS, ev_tyT, ev_tyL, ev_tyR, ev_tyRL, ev_isi, ev_isi1, ev_isi2, ev_isi3, ev_isi4, ev_isi5, ev_isiT, ev_isi2K, ev_isTy, ev_list, ev_listK, ev_tuple, ev_tupK, ev_getST, ev_getSR, ev_getSL, ev_all, ev_allK, ev_eqXI, ev_eqXS, ev_neXI, ev_neXS, ev_neXB, ev_eqXB, ev_eqXR, ev_neXR, ev_nil2, ev_eqK, ev_neK, ev_meth, ev_meth0, ev_mth1, ev_mth2, ev_mth3, ev_append, ev_m0, ev_m0K, ev_str, ev_for, ev_miR1, ev_rg1K, ev_miL, ev_liK, ev_miT, ev_tiK, ev_lc, ev_wipe0, ev_wipeS, ev_yes, ev_lenSet, ev_lenSetK, ev_listR, ev_lrK, ev_put2, ev_p2A, ev_p2K, ev_p2E, ev_put1, ev_pt1, ev_addXI, ev_addXB, ev_addXS, ev_addXT, ev_addXL, ev_subXI, ev_subXB, ev_mulXI, ev_mulXB, ev_mulXL, ev_negXI, ev_negXB, ev_strXI, ev_strXB, ev_mulYI, ev_mulYB, ev_mulYL, ev_mulYT, ev_dnew, ev_dnewT, ev_dgetE, ev_getD, ev_gD, ev_keyI, ev_keyS, ev_dgK, ev_dinE, ev_diK, ev_dputE, ev_dpK, ev_dget2E, ev_isDA, ev_isSome, ev_isNone, ev_dg2K, ev_dpop2E, ev_dp2K, ev_dp3S, ev_dp3N, ev_sortedE, ev_srO1, ev_srO2, ev_gLd, ev_srKS, ev_srKI, ev_gDT, ev_gT, ev_tinE, ev_tiKK, ev_keysA, ev_keysN, ev_keysC, ev_dputTE, ev_dptK, ev_dispE, ev_mpN, ev_mpC, ev_pcK, ev_dsK, ev_dsK2, ev_lc2E, ev_imp, ev_simp, ev_split, ev_splF, ev_splG, ev_fmt, ev_fmtS, ev_fmtI, ev_addK, ev_js0, ev_js1, ev_joined, ev_star, ev_starK, ev_each2, ev_each2K, ev_unl, ev_unlK, ev_intS, ev_strYS, ev_strYI, ev_mjoin, ev_joinG, ev_joinK, ev_sbind, ev_miS, ev_siK, List.getElem?_cons_zero, List.getElem?_cons_succ, List.set_cons_zero, List.set_cons_succ, List.length_cons, List.length_nil, List.cons_append, List.nil_append, if_true, if_false, Bool.false_eq_true, Bool.true_eq_false, reduceIte, Bool.not_true, Bool.not_false, Bool.and_true, Bool.true_and, Bool.and_false, Bool.false_and, Bool.or_true, Bool.true_or, Bool.or_false, Bool.false_or, decide_eq_true_eq, Nat.reduceAdd, Nat.reduceLeDiff, Nat.zero_add, Int.reduceLT, Int.reduceLE, Int.reduceEq, Int.reduceNeg, Nat.reduceEqDiff, and_self, and_true, true_and, decide_true, decide_false, eq_self, ite_true, ite_false, Int.reduceSub, Int.reduceAdd, Int.cast_ofNat_Int, Int.natCast_add, Int.cast_ofNat_Int, Nat.reduceSub, Nat.add_assoc, String.reduceBEq, String.reduceEq, Bool.or_not_self, beq_self_eq_true, e, hz2]
    exact ⟨rfl, _, rfl⟩
/-- the text of a setup -/
def textG (f c : Str) (l d : Int) : Str := Txt.join (Str.ofString " ") [Str.ofString "files", f, Str.ofString "clients", c, Str.ofString "length", nS l, Str.ofString "drift", nS d]
def fileR (q : Str × Int) : List A := [.str q.1, .int q.2]
def cliR (q : Str × Int × Int) : List A := [.str q.1, .int q.2.1, .int q.2.2]
def setT (fs : List (Str × Int)) (cs : List (Str × Int × Int)) (l d : Int) : Str := textG (rowsT (fs.map fileR)) (rowsT (cs.map cliR)) l d
theorem files_ok {fs : List (Str × Int)} {cs : List (Str × Int × Int)} {l d : Int} (h : SetG fs cs l d) : (∀ r ∈ fs.map fileR, r.length ≤ 3 ∧ ∀ a ∈ r, okItem a) ∧ (∀ r ∈ cs.map cliR, r.length ≤ 3 ∧ ∀ a ∈ r, okItem a) := by
  constructor
  · intro r hr
    obtain ⟨q, hq, rfl⟩ := List.mem_map.mp hr
    have hn := (h.fn.nm q.1 (List.mem_map.mpr ⟨q, hq, rfl⟩)).1
    have hp := h.fp q hq
    refine ⟨Nat.le_of_ble_eq_true rfl, fun a ha => ?_⟩
    simp only [fileR, List.mem_cons, List.not_mem_nil, or_false] at ha
    rcases ha with rfl | rfl
    · exact .inl ⟨_, rfl, hn.2.1⟩
    · exact .inr ⟨_, rfl, by omega, by omega⟩
  · intro r hr
    obtain ⟨q, hq, rfl⟩ := List.mem_map.mp hr
    have hn := (h.cn.nm q.1 (List.mem_map.mpr ⟨q, hq, rfl⟩)).1
    have hp := h.cr q hq
    refine ⟨Nat.le_of_ble_eq_true rfl, fun a ha => ?_⟩
    simp only [cliR, List.mem_cons, List.not_mem_nil, or_false] at ha
    rcases ha with rfl | rfl | rfl
    · exact .inl ⟨_, rfl, hn.2.1⟩
    · exact .inr ⟨_, rfl, by omega, by omega⟩
    · exact .inr ⟨_, rfl, by omega, by omega⟩
theorem setA_is {fs : List (Str × Int)} {cs : List (Str × Int × Int)} {l d : Int} : setA fs cs l d = .tup [.tup ((fs.map fileR).map A.tup), .tup ((cs.map cliR).map A.tup), .int l, .int d] := by
  unfold setA
  rw [List.map_map, List.map_map]
  rfl

theorem joined_is (f c n m : Str) : Str.empty ++ Str.ofString "files " ++ f ++ Str.ofString " clients " ++ c ++ Str.ofString " length " ++ n ++ Str.ofString " drift " ++ m = Txt.join (Str.ofString " ") [Str.ofString "files", f, Str.ofString "clients", c, Str.ofString "length", n, Str.ofString "drift", m] := by
  apply str_inj
  have e1 : (Str.ofString "files ").cps.toList = (Str.ofString "files").cps.toList ++ [32] := by decide +kernel
  have e2 : (Str.ofString " clients ").cps.toList = 32 :: ((Str.ofString "clients").cps.toList ++ [32]) := by decide +kernel
  have e3 : (Str.ofString " length ").cps.toList = 32 :: ((Str.ofString "length").cps.toList ++ [32]) := by decide +kernel
  have e4 : (Str.ofString " drift ").cps.toList = 32 :: ((Str.ofString "drift").cps.toList ++ [32]) := by decide +kernel
  have e0 : (Str.empty).cps.toList = [] := rfl
  rw [lit_blank, join_is, J_cps]
  simp only [app_cps, e0, e1, e2, e3, e4, List.map_cons, List.map_nil, J, List.nil_append, List.append_assoc, List.cons_append]
theorem nS_len {i : Int} (h0 : 0 ≤ i) (h1 : i ≤ 1000) : (nS i).length ≤ 4 := (figs_len (num_at h0 h1).1).2
theorem fits_is {f c n m : Str} (hf : f.length ≤ 112) (hc : c.length ≤ 112) (hn : n.length ≤ 4) (hm : m.length ≤ 4) :
    (Str.empty ++ Str.ofString "files ").length ≤ 16777216 ∧ (Str.empty ++ Str.ofString "files " ++ f).length ≤ 16777216 ∧ (Str.empty ++ Str.ofString "files " ++ f ++ Str.ofString " clients ").length ≤ 16777216 ∧
    (Str.empty ++ Str.ofString "files " ++ f ++ Str.ofString " clients " ++ c).length ≤ 16777216 ∧ (Str.empty ++ Str.ofString "files " ++ f ++ Str.ofString " clients " ++ c ++ Str.ofString " length ").length ≤ 16777216 ∧
    (Str.empty ++ Str.ofString "files " ++ f ++ Str.ofString " clients " ++ c ++ Str.ofString " length " ++ n).length ≤ 16777216 ∧ (Str.empty ++ Str.ofString "files " ++ f ++ Str.ofString " clients " ++ c ++ Str.ofString " length " ++ n ++ Str.ofString " drift ").length ≤ 16777216 ∧
    (Str.empty ++ Str.ofString "files " ++ f ++ Str.ofString " clients " ++ c ++ Str.ofString " length " ++ n ++ Str.ofString " drift " ++ m).length ≤ 1000 := by
  have z : (Str.empty).length = 0 := rfl
  have z0 : (Str.ofString "files ").length = 6 := by decide +kernel
  have z1 : (Str.ofString " clients ").length = 9 := by decide +kernel
  have z2 : (Str.ofString " length ").length = 8 := by decide +kernel
  have z3 : (Str.ofString " drift ").length = 7 := by decide +kernel
  simp only [len_app, z, z0, z1, z2, z3]
  omega
theorem setupText_wp {S : Sto} {fs : List (Str × Int)} {cs : List (Str × Int × Int)} {l d : Int} (h : SetG fs cs l d) : okR (m_setup_text [setA fs cs l d] S) fun y t => y = .str (setT fs cs l d) ∧ ∃ l, t = S ++ l := by
  obtain ⟨h1, h2⟩ := files_ok h
  have f3 := h.f3
  have c4 := h.c4
  have L1 := rowsT_len h1 (by rw [List.length_map]; omega)
  have L2 := rowsT_len h2 (by rw [List.length_map]; omega)
  have ll := h.lm
  have l2 := h.l2
  have d0 := h.d0
  have dm := h.dm
  have L3 := nS_len (i := l) (by omega) (by omega)
  have L4 := nS_len (i := d) (by omega) (by omega)
  have g3 := small_log (i := l) (by omega) (by omega)
  have g4 := small_log (i := d) (by omega) (by omega)
  obtain ⟨q0, q1, q2, q3, q4, q5, q6, q7⟩ := fits_is L1 L2 L3 L4
  have q8 : (Str.empty ++ Str.ofString "files " ++ rowsT (fs.map fileR) ++ Str.ofString " clients " ++ rowsT (cs.map cliR) ++ Str.ofString " length " ++ nS l ++ Str.ofString " drift " ++ nS d).length ≤ 16777216 := by omega
  have l1' : (rowsT (fs.map fileR)).length ≤ 16777216 := by omega
  have l2' : (rowsT (cs.map cliR)).length ≤ 16777216 := by omega
  have l3' : (nS l).length ≤ 16777216 := by omega
  have l4' : (nS d).length ≤ 16777216 := by omega
  have n1 : Str.ofString (toString l) = nS l := rfl
  have n2 : Str.ofString (toString d) = nS d := rfl
  rw [setA_is, st_setup_text]
  unfold b_setup_text
  simp only [wp_okR, wp_okF, wp_fin, wp_next, wp_then, wp_bind, wp_nox, wp_tK, wp_bK, wp_fr, wp_fn, wp_nn, wp_nr, wp_nb, wp_nc, wp_ln, wp_lc, wp_lb, wp_lr, wp_jn, wp_jc, ev_bok, ev_bno, ev_bex, ev_tok, ev_tno, ev_tex, ev_nnx, ev_nrt, ev_nbk, ev_nct, ev_nex, ev_nno, ev_frt, ev_fnx, ev_fex, ev_xok, ev_lsome, ev_lnone, ev_seq, ev_if, ev_ret, ev_retN, ev_drop, ev_nop, ev_brk, ev_cont, ev_asgN, ev_asgT, ev_asgO, ev_mgTup, ev_mgN, ev_mgC, ev_mg0, ev_putL, ev_putO, ev_var, ev_vr, ev_c, ev_op, ev_un, ev_test, ev_tb, ev_notT, ev_andT, ev_orT, ev_ifE, ev_not, ev_nb, ev_and, ev_andK, ev_or, ev_orK, ev_chain, ev_chK, ev_nil, ev_cons, ev_tup, ev_lst, ev_new, ev_call, ev_cb, ev_size, ev_addI, ev_addS, ev_addT, ev_addL, ev_catO, ev_sub, ev_mul, ev_div, ev_mod, ev_p5, ev_p6, ev_p12, ev_p18, ev_p30, ev_neg, ev_ltI, ev_ltS, ev_leI, ev_leS, ev_gt, ev_ge, ev_eqI, ev_eqS, ev_neI, ev_neS, ev_neB, ev_eqB, ev_is, ev_isnot, ev_ixT, ev_ixS, ev_ixR, ev_ixL, ev_ixK, ev_getL, ev_getM, ev_gL, ev_gM, ev_at0, ev_at1, ev_at2, ev_at3, ev_at4, ev_lenS, ev_lenR, ev_lenT, ev_lenL, ev_lenO, ev_lenD, ev_abs, ev_min2, ev_max2, ev_intI, ev_intB, ev_set, ev_fc, ev_setset, ev_last, ev_appk, ev_app0, ev_setk, ev_set0, ev_assoc, ev_lapp, ev_lappA, ev_sl, ev_nopart, ev_part, ev_ptK, ev_slT, ev_slS, ev_slR, ev_slK, ev_tyN, ev_tyB, ev_tyI, ev_tyS, ev_tyT, ev_tyL, ev_tyR, ev_tyRL, ev_isi, ev_isi1, ev_isi2, ev_isi3, ev_isi4, ev_isi5, ev_isiT, ev_isi2K, ev_isTy, ev_list, ev_listK, ev_tuple, ev_tupK, ev_getST, ev_getSR, ev_getSL, ev_all, ev_allK, ev_eqXI, ev_eqXS, ev_neXI, ev_neXS, ev_neXB, ev_eqXB, ev_eqXR, ev_neXR, ev_nil2, ev_eqK, ev_neK, ev_meth, ev_meth0, ev_mth1, ev_mth2, ev_mth3, ev_append, ev_m0, ev_m0K, ev_str, ev_for, ev_miR1, ev_rg1K, ev_miL, ev_liK, ev_miT, ev_tiK, ev_lc, ev_wipe0, ev_wipeS, ev_yes, ev_lenSet, ev_lenSetK, ev_listR, ev_lrK, ev_put2, ev_p2A, ev_p2K, ev_p2E, ev_put1, ev_pt1, ev_addXI, ev_addXB, ev_addXS, ev_addXT, ev_addXL, ev_subXI, ev_subXB, ev_mulXI, ev_mulXB, ev_mulXL, ev_negXI, ev_negXB, ev_strXI, ev_strXB, ev_mulYI, ev_mulYB, ev_mulYL, ev_mulYT, ev_dnew, ev_dnewT, ev_dgetE, ev_getD, ev_gD, ev_keyI, ev_keyS, ev_dgK, ev_dinE, ev_diK, ev_dputE, ev_dpK, ev_dget2E, ev_isDA, ev_isSome, ev_isNone, ev_dg2K, ev_dpop2E, ev_dp2K, ev_dp3S, ev_dp3N, ev_sortedE, ev_srO1, ev_srO2, ev_gLd, ev_srKS, ev_srKI, ev_gDT, ev_gT, ev_tinE, ev_tiKK, ev_keysA, ev_keysN, ev_keysC, ev_dputTE, ev_dptK, ev_dispE, ev_mpN, ev_mpC, ev_pcK, ev_dsK, ev_dsK2, ev_lc2E, ev_imp, ev_simp, ev_split, ev_splF, ev_splG, ev_fmt, ev_fmtS, ev_fmtI, ev_addK, ev_js0, ev_js1, ev_joined, ev_star, ev_starK, ev_each2, ev_each2K, ev_unl, ev_unlK, ev_intS, ev_strYS, ev_strYI, ev_mjoin, ev_joinG, ev_joinK, ev_sbind, ev_miS, ev_siK, List.getElem?_cons_zero, List.getElem?_cons_succ, List.set_cons_zero, List.set_cons_succ, List.length_cons, List.length_nil, List.cons_append, List.nil_append, if_true, if_false, Bool.false_eq_true, Bool.true_eq_false, reduceIte, Bool.not_true, Bool.not_false, Bool.and_true, Bool.true_and, Bool.and_false, Bool.false_and, Bool.or_true, Bool.true_or, Bool.or_false, Bool.false_or, decide_eq_true_eq, Nat.reduceAdd, Nat.reduceLeDiff, Nat.zero_add, Int.reduceLT, Int.reduceLE, Int.reduceEq, Int.reduceNeg, Nat.reduceEqDiff, and_self, and_true, true_and, decide_true, decide_false, eq_self, ite_true, ite_false, Int.reduceSub, Int.reduceAdd, Int.cast_ofNat_Int, Int.natCast_add, Int.cast_ofNat_Int, Nat.reduceSub, Nat.add_assoc, String.reduceBEq, String.reduceEq, Bool.or_not_self, beq_self_eq_true, q0]
  refine okR_use (rowsText_wp h1 (by rw [List.length_map]; omega)) fun a s hh => ?_
  obtain ⟨rfl, k1, rfl⟩ := hh
  simp only [wp_okR, wp_okF, wp_fin, wp_next, wp_then, wp_bind, wp_nox, wp_tK, wp_bK, wp_fr, wp_fn, wp_nn, wp_nr, wp_nb, wp_nc, wp_ln, wp_lc, wp_lb, wp_lr, wp_jn, wp_jc, ev_bok, ev_bno, ev_bex, ev_tok, ev_tno, ev_tex, ev_nnx, ev_nrt, ev_nbk, ev_nct, ev_nex, ev_nno, ev_frt, ev_fnx, ev_fex, ev_xok, ev_lsome, ev_lnone, ev_seq, ev_if, ev_ret, ev_retN, ev_drop, ev_nop, ev_brk, ev_cont, ev_asgN, ev_asgT, ev_asgO, ev_mgTup, ev_mgN, ev_mgC, ev_mg0, ev_putL, ev_putO, ev_var, ev_vr, ev_c, ev_op, ev_un, ev_test, ev_tb, ev_notT, ev_andT, ev_orT, ev_ifE, ev_not, ev_nb, ev_and, ev_andK, ev_or, ev_orK, ev_chain, ev_chK, ev_nil, ev_cons, ev_tup, ev_lst, ev_new, ev_call, ev_cb, ev_size, ev_addI, ev_addS, ev_addT, ev_addL, ev_catO, ev_sub, ev_mul, ev_div, ev_mod, ev_p5, ev_p6, ev_p12, ev_p18, ev_p30, ev_neg, ev_ltI, ev_ltS, ev_leI, ev_leS, ev_gt, ev_ge, ev_eqI, ev_eqS, ev_neI, ev_neS, ev_neB, ev_eqB, ev_is, ev_isnot, ev_ixT, ev_ixS, ev_ixR, ev_ixL, ev_ixK, ev_getL, ev_getM, ev_gL, ev_gM, ev_at0, ev_at1, ev_at2, ev_at3, ev_at4, ev_lenS, ev_lenR, ev_lenT, ev_lenL, ev_lenO, ev_lenD, ev_abs, ev_min2, ev_max2, ev_intI, ev_intB, ev_set, ev_fc, ev_setset, ev_last, ev_appk, ev_app0, ev_setk, ev_set0, ev_assoc, ev_lapp, ev_lappA, ev_sl, ev_nopart, ev_part, ev_ptK, ev_slT, ev_slS, ev_slR, ev_slK, ev_tyN, ev_tyB, ev_tyI, ev_tyS, ev_tyT, ev_tyL, ev_tyR, ev_tyRL, ev_isi, ev_isi1, ev_isi2, ev_isi3, ev_isi4, ev_isi5, ev_isiT, ev_isi2K, ev_isTy, ev_list, ev_listK, ev_tuple, ev_tupK, ev_getST, ev_getSR, ev_getSL, ev_all, ev_allK, ev_eqXI, ev_eqXS, ev_neXI, ev_neXS, ev_neXB, ev_eqXB, ev_eqXR, ev_neXR, ev_nil2, ev_eqK, ev_neK, ev_meth, ev_meth0, ev_mth1, ev_mth2, ev_mth3, ev_append, ev_m0, ev_m0K, ev_str, ev_for, ev_miR1, ev_rg1K, ev_miL, ev_liK, ev_miT, ev_tiK, ev_lc, ev_wipe0, ev_wipeS, ev_yes, ev_lenSet, ev_lenSetK, ev_listR, ev_lrK, ev_put2, ev_p2A, ev_p2K, ev_p2E, ev_put1, ev_pt1, ev_addXI, ev_addXB, ev_addXS, ev_addXT, ev_addXL, ev_subXI, ev_subXB, ev_mulXI, ev_mulXB, ev_mulXL, ev_negXI, ev_negXB, ev_strXI, ev_strXB, ev_mulYI, ev_mulYB, ev_mulYL, ev_mulYT, ev_dnew, ev_dnewT, ev_dgetE, ev_getD, ev_gD, ev_keyI, ev_keyS, ev_dgK, ev_dinE, ev_diK, ev_dputE, ev_dpK, ev_dget2E, ev_isDA, ev_isSome, ev_isNone, ev_dg2K, ev_dpop2E, ev_dp2K, ev_dp3S, ev_dp3N, ev_sortedE, ev_srO1, ev_srO2, ev_gLd, ev_srKS, ev_srKI, ev_gDT, ev_gT, ev_tinE, ev_tiKK, ev_keysA, ev_keysN, ev_keysC, ev_dputTE, ev_dptK, ev_dispE, ev_mpN, ev_mpC, ev_pcK, ev_dsK, ev_dsK2, ev_lc2E, ev_imp, ev_simp, ev_split, ev_splF, ev_splG, ev_fmt, ev_fmtS, ev_fmtI, ev_addK, ev_js0, ev_js1, ev_joined, ev_star, ev_starK, ev_each2, ev_each2K, ev_unl, ev_unlK, ev_intS, ev_strYS, ev_strYI, ev_mjoin, ev_joinG, ev_joinK, ev_sbind, ev_miS, ev_siK, List.getElem?_cons_zero, List.getElem?_cons_succ, List.set_cons_zero, List.set_cons_succ, List.length_cons, List.length_nil, List.cons_append, List.nil_append, if_true, if_false, Bool.false_eq_true, Bool.true_eq_false, reduceIte, Bool.not_true, Bool.not_false, Bool.and_true, Bool.true_and, Bool.and_false, Bool.false_and, Bool.or_true, Bool.true_or, Bool.or_false, Bool.false_or, decide_eq_true_eq, Nat.reduceAdd, Nat.reduceLeDiff, Nat.zero_add, Int.reduceLT, Int.reduceLE, Int.reduceEq, Int.reduceNeg, Nat.reduceEqDiff, and_self, and_true, true_and, decide_true, decide_false, eq_self, ite_true, ite_false, Int.reduceSub, Int.reduceAdd, Int.cast_ofNat_Int, Int.natCast_add, Int.cast_ofNat_Int, Nat.reduceSub, Nat.add_assoc, String.reduceBEq, String.reduceEq, Bool.or_not_self, beq_self_eq_true, q1, q2, l1']
  refine okR_use (rowsText_wp h2 (by rw [List.length_map]; omega)) fun a s hh => ?_
  obtain ⟨rfl, k2, rfl⟩ := hh
  simp only [wp_okR, wp_okF, wp_fin, wp_next, wp_then, wp_bind, wp_nox, wp_tK, wp_bK, wp_fr, wp_fn, wp_nn, wp_nr, wp_nb, wp_nc, wp_ln, wp_lc, wp_lb, wp_lr, wp_jn, wp_jc, ev_bok, ev_bno, ev_bex, ev_tok, ev_tno, ev_tex, ev_nnx, ev_nrt, ev_nbk, ev_nct, ev_nex, ev_nno, ev_frt, ev_fnx, ev_fex, ev_xok, ev_lsome, ev_lnone, ev_seq, ev_if, ev_ret, ev_retN, ev_drop, ev_nop, ev_brk, ev_cont, ev_asgN, ev_asgT, ev_asgO, ev_mgTup, ev_mgN, ev_mgC, ev_mg0, ev_putL, ev_putO, ev_var, ev_vr, ev_c, ev_op, ev_un, ev_test, ev_tb, ev_notT, ev_andT, ev_orT, ev_ifE, ev_not, ev_nb, ev_and, ev_andK, ev_or, ev_orK, ev_chain, ev_chK, ev_nil, ev_cons, ev_tup, ev_lst, ev_new, ev_call, ev_cb, ev_size, ev_addI, ev_addS, ev_addT, ev_addL, ev_catO, ev_sub, ev_mul, ev_div, ev_mod, ev_p5, ev_p6, ev_p12, ev_p18, ev_p30, ev_neg, ev_ltI, ev_ltS, ev_leI, ev_leS, ev_gt, ev_ge, ev_eqI, ev_eqS, ev_neI, ev_neS, ev_neB, ev_eqB, ev_is, ev_isnot, ev_ixT, ev_ixS, ev_ixR, ev_ixL, ev_ixK, ev_getL, ev_getM, ev_gL, ev_gM, ev_at0, ev_at1, ev_at2, ev_at3, ev_at4, ev_lenS, ev_lenR, ev_lenT, ev_lenL, ev_lenO, ev_lenD, ev_abs, ev_min2, ev_max2, ev_intI, ev_intB, ev_set, ev_fc, ev_setset, ev_last, ev_appk, ev_app0, ev_setk, ev_set0, ev_assoc, ev_lapp, ev_lappA, ev_sl, ev_nopart, ev_part, ev_ptK, ev_slT, ev_slS, ev_slR, ev_slK, ev_tyN, ev_tyB, ev_tyI, ev_tyS, ev_tyT, ev_tyL, ev_tyR, ev_tyRL, ev_isi, ev_isi1, ev_isi2, ev_isi3, ev_isi4, ev_isi5, ev_isiT, ev_isi2K, ev_isTy, ev_list, ev_listK, ev_tuple, ev_tupK, ev_getST, ev_getSR, ev_getSL, ev_all, ev_allK, ev_eqXI, ev_eqXS, ev_neXI, ev_neXS, ev_neXB, ev_eqXB, ev_eqXR, ev_neXR, ev_nil2, ev_eqK, ev_neK, ev_meth, ev_meth0, ev_mth1, ev_mth2, ev_mth3, ev_append, ev_m0, ev_m0K, ev_str, ev_for, ev_miR1, ev_rg1K, ev_miL, ev_liK, ev_miT, ev_tiK, ev_lc, ev_wipe0, ev_wipeS, ev_yes, ev_lenSet, ev_lenSetK, ev_listR, ev_lrK, ev_put2, ev_p2A, ev_p2K, ev_p2E, ev_put1, ev_pt1, ev_addXI, ev_addXB, ev_addXS, ev_addXT, ev_addXL, ev_subXI, ev_subXB, ev_mulXI, ev_mulXB, ev_mulXL, ev_negXI, ev_negXB, ev_strXI, ev_strXB, ev_mulYI, ev_mulYB, ev_mulYL, ev_mulYT, ev_dnew, ev_dnewT, ev_dgetE, ev_getD, ev_gD, ev_keyI, ev_keyS, ev_dgK, ev_dinE, ev_diK, ev_dputE, ev_dpK, ev_dget2E, ev_isDA, ev_isSome, ev_isNone, ev_dg2K, ev_dpop2E, ev_dp2K, ev_dp3S, ev_dp3N, ev_sortedE, ev_srO1, ev_srO2, ev_gLd, ev_srKS, ev_srKI, ev_gDT, ev_gT, ev_tinE, ev_tiKK, ev_keysA, ev_keysN, ev_keysC, ev_dputTE, ev_dptK, ev_dispE, ev_mpN, ev_mpC, ev_pcK, ev_dsK, ev_dsK2, ev_lc2E, ev_imp, ev_simp, ev_split, ev_splF, ev_splG, ev_fmt, ev_fmtS, ev_fmtI, ev_addK, ev_js0, ev_js1, ev_joined, ev_star, ev_starK, ev_each2, ev_each2K, ev_unl, ev_unlK, ev_intS, ev_strYS, ev_strYI, ev_mjoin, ev_joinG, ev_joinK, ev_sbind, ev_miS, ev_siK, List.getElem?_cons_zero, List.getElem?_cons_succ, List.set_cons_zero, List.set_cons_succ, List.length_cons, List.length_nil, List.cons_append, List.nil_append, if_true, if_false, Bool.false_eq_true, Bool.true_eq_false, reduceIte, Bool.not_true, Bool.not_false, Bool.and_true, Bool.true_and, Bool.and_false, Bool.false_and, Bool.or_true, Bool.true_or, Bool.or_false, Bool.false_or, decide_eq_true_eq, Nat.reduceAdd, Nat.reduceLeDiff, Nat.zero_add, Int.reduceLT, Int.reduceLE, Int.reduceEq, Int.reduceNeg, Nat.reduceEqDiff, and_self, and_true, true_and, decide_true, decide_false, eq_self, ite_true, ite_false, Int.reduceSub, Int.reduceAdd, Int.cast_ofNat_Int, Int.natCast_add, Int.cast_ofNat_Int, Nat.reduceSub, Nat.add_assoc, String.reduceBEq, String.reduceEq, Bool.or_not_self, beq_self_eq_true, q3, q4, q5, q6, q7, q8, l2', l3', l4', g3, g4, n1, n2]
  refine ⟨?_, _, rfl⟩
  rw [joined_is]
  rfl
theorem setT_len {fs : List (Str × Int)} {cs : List (Str × Int × Int)} {l d : Int} (h : SetG fs cs l d) : (setT fs cs l d).length ≤ 1000 := by
  obtain ⟨h1, h2⟩ := files_ok h
  have f3 := h.f3
  have c4 := h.c4
  have ll := h.lm
  have l2 := h.l2
  have d0 := h.d0
  have dm := h.dm
  obtain ⟨_, _, _, _, _, _, _, q7⟩ := fits_is (rowsT_len h1 (by rw [List.length_map]; omega)) (rowsT_len h2 (by rw [List.length_map]; omega)) (nS_len (i := l) (by omega) (by omega)) (nS_len (i := d) (by omega) (by omega))
  rw [joined_is] at q7
  exact q7

/-! ### the law's own line -/
theorem row2 (x y : Str) : x ++ Str.ofString ":" ++ y = Txt.join (Str.ofString ":") [x, y] := by
  rw [lit_colon, join_is]
  rfl
theorem row3 (x y z : Str) : x ++ Str.ofString ":" ++ y ++ Str.ofString ":" ++ z = Txt.join (Str.ofString ":") [x, y, z] := by
  rw [lit_colon, join_is]
  show x ++ ⟨#[58]⟩ ++ y ++ ⟨#[58]⟩ ++ z = x ++ ⟨#[58]⟩ ++ (y ++ ⟨#[58]⟩ ++ z)
  apply str_inj
  simp only [app_cps, List.append_assoc]
theorem strs_rows (rows : List (List A)) : strsOf ((rows.map A.tup).map rowF) = some (rows.map rowT) := by
  rw [← strsOf_map, List.map_map, List.map_map]
  rfl
theorem setupLine_wp {S : Sto} {fs : List (Str × Int)} {cs : List (Str × Int × Int)} {l d : Int} (h : SetG fs cs l d) : okR (m__law_setup_line [setA fs cs l d] S) fun y t => y = .str (setT fs cs l d) ∧ ∃ l, t = S ++ l := by
  obtain ⟨h1, h2⟩ := files_ok h
  have f3 := h.f3
  have c4 := h.c4
  have L1 := rowsT_len h1 (by rw [List.length_map]; omega)
  have L2 := rowsT_len h2 (by rw [List.length_map]; omega)
  have ll := h.lm
  have l2 := h.l2
  have d0 := h.d0
  have dm := h.dm
  have L3 := nS_len (i := l) (by omega) (by omega)
  have L4 := nS_len (i := d) (by omega) (by omega)
  have g3 := small_log (i := l) (by omega) (by omega)
  have g4 := small_log (i := d) (by omega) (by omega)
  have n1 : Str.ofString (toString l) = nS l := rfl
  have n2 : Str.ofString (toString d) = nS d := rfl
  have S1 := rowsT_sum h1 (by rw [List.length_map]; omega)
  have S2 := rowsT_sum h2 (by rw [List.length_map]; omega)
  have i0 : ∀ a b c d : A, atI [a, b, c, d] 0 = some a := fun _ _ _ _ => rfl
  have i1 : ∀ a b c d : A, atI [a, b, c, d] 1 = some b := fun _ _ _ _ => rfl
  have i2 : ∀ a b c d : A, atI [a, b, c, d] 2 = some c := fun _ _ _ _ => rfl
  have i3 : ∀ a b c d : A, atI [a, b, c, d] 3 = some d := fun _ _ _ _ => rfl
  rw [setA_is, st__law_setup_line]
  unfold b__law_setup_line
  simp only [wp_okR, wp_okF, wp_fin, wp_next, wp_then, wp_bind, wp_nox, wp_tK, wp_bK, wp_fr, wp_fn, wp_nn, wp_nr, wp_nb, wp_nc, wp_ln, wp_lc, wp_lb, wp_lr, wp_jn, wp_jc, ev_bok, ev_bno, ev_bex, ev_tok, ev_tno, ev_tex, ev_nnx, ev_nrt, ev_nbk, ev_nct, ev_nex, ev_nno, ev_frt, ev_fnx, ev_fex, ev_xok, ev_lsome, ev_lnone, ev_seq, ev_if, ev_ret, ev_retN, ev_drop, ev_nop, ev_brk, ev_cont, ev_asgN, ev_asgT, ev_asgO, ev_mgTup, ev_mgN, ev_mgC, ev_mg0, ev_putL, ev_putO, ev_var, ev_vr, ev_c, ev_op, ev_un, ev_test, ev_tb, ev_notT, ev_andT, ev_orT, ev_ifE, ev_not, ev_nb, ev_and, ev_andK, ev_or, ev_orK, ev_chain, ev_chK, ev_nil, ev_cons, ev_tup, ev_lst, ev_new, ev_call, ev_cb, ev_size, ev_addI, ev_addS, ev_addT, ev_addL, ev_catO, ev_sub, ev_mul, ev_div, ev_mod, ev_p5, ev_p6, ev_p12, ev_p18, ev_p30, ev_neg, ev_ltI, ev_ltS, ev_leI, ev_leS, ev_gt, ev_ge, ev_eqI, ev_eqS, ev_neI, ev_neS, ev_neB, ev_eqB, ev_is, ev_isnot, ev_ixT, ev_ixS, ev_ixR, ev_ixL, ev_ixK, ev_getL, ev_getM, ev_gL, ev_gM, ev_at0, ev_at1, ev_at2, ev_at3, ev_at4, ev_lenS, ev_lenR, ev_lenT, ev_lenL, ev_lenO, ev_lenD, ev_abs, ev_min2, ev_max2, ev_intI, ev_intB, ev_set, ev_fc, ev_setset, ev_last, ev_appk, ev_app0, ev_setk, ev_set0, ev_assoc, ev_lapp, ev_lappA, ev_sl, ev_nopart, ev_part, ev_ptK, ev_slT, ev_slS, ev_slR, ev_slK, ev_tyN, ev_tyB, ev_tyI, ev_tyS, ev_tyT, ev_tyL, ev_tyR, ev_tyRL, ev_isi, ev_isi1, ev_isi2, ev_isi3, ev_isi4, ev_isi5, ev_isiT, ev_isi2K, ev_isTy, ev_list, ev_listK, ev_tuple, ev_tupK, ev_getST, ev_getSR, ev_getSL, ev_all, ev_allK, ev_eqXI, ev_eqXS, ev_neXI, ev_neXS, ev_neXB, ev_eqXB, ev_eqXR, ev_neXR, ev_nil2, ev_eqK, ev_neK, ev_meth, ev_meth0, ev_mth1, ev_mth2, ev_mth3, ev_append, ev_m0, ev_m0K, ev_str, ev_for, ev_miR1, ev_rg1K, ev_miL, ev_liK, ev_miT, ev_tiK, ev_lc, ev_wipe0, ev_wipeS, ev_yes, ev_lenSet, ev_lenSetK, ev_listR, ev_lrK, ev_put2, ev_p2A, ev_p2K, ev_p2E, ev_put1, ev_pt1, ev_addXI, ev_addXB, ev_addXS, ev_addXT, ev_addXL, ev_subXI, ev_subXB, ev_mulXI, ev_mulXB, ev_mulXL, ev_negXI, ev_negXB, ev_strXI, ev_strXB, ev_mulYI, ev_mulYB, ev_mulYL, ev_mulYT, ev_dnew, ev_dnewT, ev_dgetE, ev_getD, ev_gD, ev_keyI, ev_keyS, ev_dgK, ev_dinE, ev_diK, ev_dputE, ev_dpK, ev_dget2E, ev_isDA, ev_isSome, ev_isNone, ev_dg2K, ev_dpop2E, ev_dp2K, ev_dp3S, ev_dp3N, ev_sortedE, ev_srO1, ev_srO2, ev_gLd, ev_srKS, ev_srKI, ev_gDT, ev_gT, ev_tinE, ev_tiKK, ev_keysA, ev_keysN, ev_keysC, ev_dputTE, ev_dptK, ev_dispE, ev_mpN, ev_mpC, ev_pcK, ev_dsK, ev_dsK2, ev_lc2E, ev_imp, ev_simp, ev_split, ev_splF, ev_splG, ev_fmt, ev_fmtS, ev_fmtI, ev_addK, ev_js0, ev_js1, ev_joined, ev_star, ev_starK, ev_each2, ev_each2K, ev_unl, ev_unlK, ev_intS, ev_strYS, ev_strYI, ev_mjoin, ev_joinG, ev_joinK, ev_sbind, ev_miS, ev_siK, List.getElem?_cons_zero, List.getElem?_cons_succ, List.set_cons_zero, List.set_cons_succ, List.length_cons, List.length_nil, List.cons_append, List.nil_append, if_true, if_false, Bool.false_eq_true, Bool.true_eq_false, reduceIte, Bool.not_true, Bool.not_false, Bool.and_true, Bool.true_and, Bool.and_false, Bool.false_and, Bool.or_true, Bool.true_or, Bool.or_false, Bool.false_or, decide_eq_true_eq, Nat.reduceAdd, Nat.reduceLeDiff, Nat.zero_add, Int.reduceLT, Int.reduceLE, Int.reduceEq, Int.reduceNeg, Nat.reduceEqDiff, and_self, and_true, true_and, decide_true, decide_false, eq_self, ite_true, ite_false, Int.reduceSub, Int.reduceAdd, Int.cast_ofNat_Int, Int.natCast_add, Int.cast_ofNat_Int, Nat.reduceSub, Nat.add_assoc, String.reduceBEq, String.reduceEq, Bool.or_not_self, beq_self_eq_true, i0]
  refine lc_P rowF (fun _ => trivial) (by rw [List.length_map, List.length_map]; omega) (fun x hx => ?_) ?_
  · obtain ⟨r, hr, rfl⟩ := List.mem_map.mp hx
    obtain ⟨q, hq, rfl⟩ := List.mem_map.mp hr
    refine ⟨_, rfl, fun k => ?_⟩
    have hp := h.fp q hq
    have gp := small_log (i := q.2) (by omega) (by omega)
    have j0 : ∀ a b : A, atI [a, b] 0 = some a := fun _ _ => rfl
    have j1 : ∀ a b : A, atI [a, b] 1 = some b := fun _ _ => rfl
    have hn := (h.fn.nm q.1 (List.mem_map.mpr ⟨q, hq, rfl⟩)).1.2.1
    have zc : (Str.ofString ":").length = 1 := by decide +kernel
    have sn := nS_len (i := q.2) (by omega) (by omega)
    have n3 : Str.ofString (toString q.2) = nS q.2 := rfl
    have u1 : q.1.length + 1 ≤ 16777216 := by omega
    have u2 : (q.1 ++ Str.ofString ":").length + (nS q.2).length ≤ 16777216 := by
      rw [len_app, zc]
      omega
    simp only [wp_okR, wp_okF, wp_fin, wp_next, wp_then, wp_bind, wp_nox, wp_tK, wp_bK, wp_fr, wp_fn, wp_nn, wp_nr, wp_nb, wp_nc, wp_ln, wp_lc, wp_lb, wp_lr, wp_jn, wp_jc, ev_bok, ev_bno, ev_bex, ev_tok, ev_tno, ev_tex, ev_nnx, ev_nrt, ev_nbk, ev_nct, ev_nex, ev_nno, ev_frt, ev_fnx, ev_fex, ev_xok, ev_lsome, ev_lnone, ev_seq, ev_if, ev_ret, ev_retN, ev_drop, ev_nop, ev_brk, ev_cont, ev_asgN, ev_asgT, ev_asgO, ev_mgTup, ev_mgN, ev_mgC, ev_mg0, ev_putL, ev_putO, ev_var, ev_vr, ev_c, ev_op, ev_un, ev_test, ev_tb, ev_notT, ev_andT, ev_orT, ev_ifE, ev_not, ev_nb, ev_and, ev_andK, ev_or, ev_orK, ev_chain, ev_chK, ev_nil, ev_cons, ev_tup, ev_lst, ev_new, ev_call, ev_cb, ev_size, ev_addI, ev_addS, ev_addT, ev_addL, ev_catO, ev_sub, ev_mul, ev_div, ev_mod, ev_p5, ev_p6, ev_p12, ev_p18, ev_p30, ev_neg, ev_ltI, ev_ltS, ev_leI, ev_leS, ev_gt, ev_ge, ev_eqI, ev_eqS, ev_neI, ev_neS, ev_neB, ev_eqB, ev_is, ev_isnot, ev_ixT, ev_ixS, ev_ixR, ev_ixL, ev_ixK, ev_getL, ev_getM, ev_gL, ev_gM, ev_at0, ev_at1, ev_at2, ev_at3, ev_at4, ev_lenS, ev_lenR, ev_lenT, ev_lenL, ev_lenO, ev_lenD, ev_abs, ev_min2, ev_max2, ev_intI, ev_intB, ev_set, ev_fc, ev_setset, ev_last, ev_appk, ev_app0, ev_setk, ev_set0, ev_assoc, ev_lapp, ev_lappA, ev_sl, ev_nopart, ev_part, ev_ptK, ev_slT, ev_slS, ev_slR, ev_slK, ev_tyN, ev_tyB, ev_tyI, ev_tyS, ev_tyT, ev_tyL, ev_tyR, ev_tyRL, ev_isi, ev_isi1, ev_isi2, ev_isi3, ev_isi4, ev_isi5, ev_isiT, ev_isi2K, ev_isTy, ev_list, ev_listK, ev_tuple, ev_tupK, ev_getST, ev_getSR, ev_getSL, ev_all, ev_allK, ev_eqXI, ev_eqXS, ev_neXI, ev_neXS, ev_neXB, ev_eqXB, ev_eqXR, ev_neXR, ev_nil2, ev_eqK, ev_neK, ev_meth, ev_meth0, ev_mth1, ev_mth2, ev_mth3, ev_append, ev_m0, ev_m0K, ev_str, ev_for, ev_miR1, ev_rg1K, ev_miL, ev_liK, ev_miT, ev_tiK, ev_lc, ev_wipe0, ev_wipeS, ev_yes, ev_lenSet, ev_lenSetK, ev_listR, ev_lrK, ev_put2, ev_p2A, ev_p2K, ev_p2E, ev_put1, ev_pt1, ev_addXI, ev_addXB, ev_addXS, ev_addXT, ev_addXL, ev_subXI, ev_subXB, ev_mulXI, ev_mulXB, ev_mulXL, ev_negXI, ev_negXB, ev_strXI, ev_strXB, ev_mulYI, ev_mulYB, ev_mulYL, ev_mulYT, ev_dnew, ev_dnewT, ev_dgetE, ev_getD, ev_gD, ev_keyI, ev_keyS, ev_dgK, ev_dinE, ev_diK, ev_dputE, ev_dpK, ev_dget2E, ev_isDA, ev_isSome, ev_isNone, ev_dg2K, ev_dpop2E, ev_dp2K, ev_dp3S, ev_dp3N, ev_sortedE, ev_srO1, ev_srO2, ev_gLd, ev_srKS, ev_srKI, ev_gDT, ev_gT, ev_tinE, ev_tiKK, ev_keysA, ev_keysN, ev_keysC, ev_dputTE, ev_dptK, ev_dispE, ev_mpN, ev_mpC, ev_pcK, ev_dsK, ev_dsK2, ev_lc2E, ev_imp, ev_simp, ev_split, ev_splF, ev_splG, ev_fmt, ev_fmtS, ev_fmtI, ev_addK, ev_js0, ev_js1, ev_joined, ev_star, ev_starK, ev_each2, ev_each2K, ev_unl, ev_unlK, ev_intS, ev_strYS, ev_strYI, ev_mjoin, ev_joinG, ev_joinK, ev_sbind, ev_miS, ev_siK, List.getElem?_cons_zero, List.getElem?_cons_succ, List.set_cons_zero, List.set_cons_succ, List.length_cons, List.length_nil, List.cons_append, List.nil_append, if_true, if_false, Bool.false_eq_true, Bool.true_eq_false, reduceIte, Bool.not_true, Bool.not_false, Bool.and_true, Bool.true_and, Bool.and_false, Bool.false_and, Bool.or_true, Bool.true_or, Bool.or_false, Bool.false_or, decide_eq_true_eq, Nat.reduceAdd, Nat.reduceLeDiff, Nat.zero_add, Int.reduceLT, Int.reduceLE, Int.reduceEq, Int.reduceNeg, Nat.reduceEqDiff, and_self, and_true, true_and, decide_true, decide_false, eq_self, ite_true, ite_false, Int.reduceSub, Int.reduceAdd, Int.cast_ofNat_Int, Int.natCast_add, Int.cast_ofNat_Int, Nat.reduceSub, Nat.add_assoc, String.reduceBEq, String.reduceEq, Bool.or_not_self, beq_self_eq_true, fileR, j0, j1, gp, zc, u1, n3, u2]
    rw [row2]
    rfl
  · have e := strs_rows (fs.map fileR)
    have hz2 : (List.map (fun x : Str => x.length) (List.map rowT (fs.map fileR))).sum + (List.map rowT (fs.map fileR)).length * (Str.ofString ",").length ≤ 16777216 := by
      rw [show (Str.ofString ",").length = 1 by decide +kernel]
      omega
    simp only [wp_okR, wp_okF, wp_fin, wp_next, wp_then, wp_bind, wp_nox, wp_tK, wp_bK, wp_fr, wp_fn, wp_nn, wp_nr, wp_nb, wp_nc, wp_ln, wp_lc, wp_lb, wp_lr, wp_jn, wp_jc, ev_bok, ev_bno, ev_bex, ev_tok, ev_tno, ev_tex, ev_nnx, ev_nrt, ev_nbk, ev_nct, ev_nex, ev_nno, ev_frt, ev_fnx, ev_fex, ev_xok, ev_lsome, ev_lnone, ev_seq, ev_if, ev_ret, ev_retN, ev_drop, ev_nop, ev_brk, ev_cont, ev_asgN, ev_asgT, ev_asgO, ev_mgTup, ev_mgN, ev_mgC, ev_mg0, ev_putL, ev_putO, ev_var, ev_vr, ev_c, ev_op, ev_un, ev_test, ev_tb, ev_notT, ev_andT, ev_orT, ev_ifE, ev_not, ev_nb, ev_and, ev_andK, ev_or, ev_orK, ev_chain, ev_chK, ev_nil, ev_cons, ev_tup, ev_lst, ev_new, ev_call, ev_cb, ev_size, ev_addI, ev_addS, ev_addT, ev_addL, ev_catO, ev_sub, ev_mul, ev_div, ev_mod, ev_p5, ev_p6, ev_p12, ev_p18, ev_p30, ev_neg, ev_ltI, ev_ltS, ev_leI, ev_leS, ev_gt, ev_ge, ev_eqI, ev_eqS, ev_neI, ev_neS, ev_neB, ev_eqB, ev_is, ev_isnot, ev_ixT, ev_ixS, ev_ixR, ev_ixL, ev_ixK, ev_getL, ev_getM, ev_gL, ev_gM, ev_at0, ev_at1, ev_at2, ev_at3, ev_at4, ev_lenS, ev_lenR, ev_lenT, ev_lenL, ev_lenO, ev_lenD, ev_abs, ev_min2, ev_max2, ev_intI, ev_intB, ev_set, ev_fc, ev_setset, ev_last, ev_appk, ev_app0, ev_setk, ev_set0, ev_assoc, ev_lapp, ev_lappA, ev_sl, ev_nopart, ev_part, ev_ptK, ev_slT, ev_slS, ev_slR, ev_slK, ev_tyN, ev_tyB, ev_tyI, ev_tyS, ev_tyT, ev_tyL, ev_tyR, ev_tyRL, ev_isi, ev_isi1, ev_isi2, ev_isi3, ev_isi4, ev_isi5, ev_isiT, ev_isi2K, ev_isTy, ev_list, ev_listK, ev_tuple, ev_tupK, ev_getST, ev_getSR, ev_getSL, ev_all, ev_allK, ev_eqXI, ev_eqXS, ev_neXI, ev_neXS, ev_neXB, ev_eqXB, ev_eqXR, ev_neXR, ev_nil2, ev_eqK, ev_neK, ev_meth, ev_meth0, ev_mth1, ev_mth2, ev_mth3, ev_append, ev_m0, ev_m0K, ev_str, ev_for, ev_miR1, ev_rg1K, ev_miL, ev_liK, ev_miT, ev_tiK, ev_lc, ev_wipe0, ev_wipeS, ev_yes, ev_lenSet, ev_lenSetK, ev_listR, ev_lrK, ev_put2, ev_p2A, ev_p2K, ev_p2E, ev_put1, ev_pt1, ev_addXI, ev_addXB, ev_addXS, ev_addXT, ev_addXL, ev_subXI, ev_subXB, ev_mulXI, ev_mulXB, ev_mulXL, ev_negXI, ev_negXB, ev_strXI, ev_strXB, ev_mulYI, ev_mulYB, ev_mulYL, ev_mulYT, ev_dnew, ev_dnewT, ev_dgetE, ev_getD, ev_gD, ev_keyI, ev_keyS, ev_dgK, ev_dinE, ev_diK, ev_dputE, ev_dpK, ev_dget2E, ev_isDA, ev_isSome, ev_isNone, ev_dg2K, ev_dpop2E, ev_dp2K, ev_dp3S, ev_dp3N, ev_sortedE, ev_srO1, ev_srO2, ev_gLd, ev_srKS, ev_srKI, ev_gDT, ev_gT, ev_tinE, ev_tiKK, ev_keysA, ev_keysN, ev_keysC, ev_dputTE, ev_dptK, ev_dispE, ev_mpN, ev_mpC, ev_pcK, ev_dsK, ev_dsK2, ev_lc2E, ev_imp, ev_simp, ev_split, ev_splF, ev_splG, ev_fmt, ev_fmtS, ev_fmtI, ev_addK, ev_js0, ev_js1, ev_joined, ev_star, ev_starK, ev_each2, ev_each2K, ev_unl, ev_unlK, ev_intS, ev_strYS, ev_strYI, ev_mjoin, ev_joinG, ev_joinK, ev_sbind, ev_miS, ev_siK, List.getElem?_cons_zero, List.getElem?_cons_succ, List.set_cons_zero, List.set_cons_succ, List.length_cons, List.length_nil, List.cons_append, List.nil_append, if_true, if_false, Bool.false_eq_true, Bool.true_eq_false, reduceIte, Bool.not_true, Bool.not_false, Bool.and_true, Bool.true_and, Bool.and_false, Bool.false_and, Bool.or_true, Bool.true_or, Bool.or_false, Bool.false_or, decide_eq_true_eq, Nat.reduceAdd, Nat.reduceLeDiff, Nat.zero_add, Int.reduceLT, Int.reduceLE, Int.reduceEq, Int.reduceNeg, Nat.reduceEqDiff, and_self, and_true, true_and, decide_true, decide_false, eq_self, ite_true, ite_false, Int.reduceSub, Int.reduceAdd, Int.cast_ofNat_Int, Int.natCast_add, Int.cast_ofNat_Int, Nat.reduceSub, Nat.add_assoc, String.reduceBEq, String.reduceEq, Bool.or_not_self, beq_self_eq_true, e, hz2, i1]
    obtain ⟨S1, hS1⟩ : ∃ S1, S1 = S ++ [AO.lst (((fs.map fileR).map A.tup).map rowF), AO.lst [A.str (Str.ofString "files"), A.str (Txt.join (Str.ofString ",") ((fs.map fileR).map rowT)), A.str (Str.ofString "clients")]] := ⟨_, rfl⟩
    have z1 : S.length + 2 = S1.length := by rw [hS1, List.length_append]; rfl
    have z2 : S.length + 1 + 1 = S1.length := by rw [hS1, List.length_append]; rfl
    have es : S ++ [AO.lst (((fs.map fileR).map A.tup).map rowF), AO.lst [A.str (Str.ofString "files"), A.str (Txt.join (Str.ofString ",") ((fs.map fileR).map rowT)), A.str (Str.ofString "clients")], AO.lst []] = S1 ++ [AO.lst []] := by
      rw [hS1, List.append_assoc]
      rfl
    have gW : ∀ k, (S1 ++ k)[S.length + 1]? = some (AO.lst [A.str (Str.ofString "files"), A.str (Txt.join (Str.ofString ",") ((fs.map fileR).map rowT)), A.str (Str.ofString "clients")]) := fun k => by
      rw [hS1, List.append_assoc, List.getElem?_append_right (by omega), Nat.add_sub_cancel_left]
      rfl
    rw [es, z1]
    refine lc_P rowF (fun _ => trivial) (by rw [List.length_map, List.length_map]; omega) (fun x hx => ?_) ?_
    · obtain ⟨r, hr, rfl⟩ := List.mem_map.mp hx
      obtain ⟨q, hq, rfl⟩ := List.mem_map.mp hr
      refine ⟨_, rfl, fun k => ?_⟩
      have hp := h.cr q hq
      have gp := small_log (i := q.2.1) (by omega) (by omega)
      have gp2 := small_log (i := q.2.2) (by omega) (by omega)
      have j0 : ∀ a b c : A, atI [a, b, c] 0 = some a := fun _ _ _ => rfl
      have j1 : ∀ a b c : A, atI [a, b, c] 1 = some b := fun _ _ _ => rfl
      have j2 : ∀ a b c : A, atI [a, b, c] 2 = some c := fun _ _ _ => rfl
      have hn := (h.cn.nm q.1 (List.mem_map.mpr ⟨q, hq, rfl⟩)).1.2.1
      have zc : (Str.ofString ":").length = 1 := by decide +kernel
      have sn := nS_len (i := q.2.1) (by omega) (by omega)
      have sn2 := nS_len (i := q.2.2) (by omega) (by omega)
      have n3 : Str.ofString (toString q.2.1) = nS q.2.1 := rfl
      have n4 : Str.ofString (toString q.2.2) = nS q.2.2 := rfl
      have u1 : q.1.length + 1 ≤ 16777216 := by omega
      have u2 : (q.1 ++ Str.ofString ":").length + (nS q.2.1).length ≤ 16777216 := by
        rw [len_app, zc]
        omega
      have u3 : (q.1 ++ Str.ofString ":" ++ nS q.2.1).length + 1 ≤ 16777216 := by
        rw [len_app, len_app, zc]
        omega
      have u4 : (q.1 ++ Str.ofString ":" ++ nS q.2.1 ++ Str.ofString ":").length + (nS q.2.2).length ≤ 16777216 := by
        rw [len_app, len_app, len_app, zc]
        omega
      simp only [wp_okR, wp_okF, wp_fin, wp_next, wp_then, wp_bind, wp_nox, wp_tK, wp_bK, wp_fr, wp_fn, wp_nn, wp_nr, wp_nb, wp_nc, wp_ln, wp_lc, wp_lb, wp_lr, wp_jn, wp_jc, ev_bok, ev_bno, ev_bex, ev_tok, ev_tno, ev_tex, ev_nnx, ev_nrt, ev_nbk, ev_nct, ev_nex, ev_nno, ev_frt, ev_fnx, ev_fex, ev_xok, ev_lsome, ev_lnone, ev_seq, ev_if, ev_ret, ev_retN, ev_drop, ev_nop, ev_brk, ev_cont, ev_asgN, ev_asgT, ev_asgO, ev_mgTup, ev_mgN, ev_mgC, ev_mg0, ev_putL, ev_putO, ev_var, ev_vr, ev_c, ev_op, ev_un, ev_test, ev_tb, ev_notT, ev_andT, ev_orT, ev_ifE, ev_not, ev_nb, ev_and, ev_andK, ev_or, ev_orK, ev_chain, ev_chK, ev_nil, ev_cons, ev_tup, ev_lst, ev_new, ev_call, ev_cb, ev_size, ev_addI, ev_addS, ev_addT, ev_addL, ev_catO, ev_sub, ev_mul, ev_div, ev_mod, ev_p5, ev_p6, ev_p12, ev_p18, ev_p30, ev_neg, ev_ltI, ev_ltS, ev_leI, ev_leS, ev_gt, ev_ge, ev_eqI, ev_eqS, ev_neI, ev_neS, ev_neB, ev_eqB, ev_is, ev_isnot, ev_ixT, ev_ixS, ev_ixR, ev_ixL, ev_ixK, ev_getL, ev_getM, ev_gL, ev_gM, ev_at0, ev_at1, ev_at2, ev_at3, ev_at4, ev_lenS, ev_lenR, ev_lenT, ev_lenL, ev_lenO, ev_lenD, ev_abs, ev_min2, ev_max2, ev_intI, ev_intB, ev_set, ev_fc, ev_setset, ev_last, ev_appk, ev_app0, ev_setk, ev_set0, ev_assoc, ev_lapp, ev_lappA, ev_sl, ev_nopart, ev_part, ev_ptK, ev_slT, ev_slS, ev_slR, ev_slK, ev_tyN, ev_tyB, ev_tyI, ev_tyS, ev_tyT, ev_tyL, ev_tyR, ev_tyRL, ev_isi, ev_isi1, ev_isi2, ev_isi3, ev_isi4, ev_isi5, ev_isiT, ev_isi2K, ev_isTy, ev_list, ev_listK, ev_tuple, ev_tupK, ev_getST, ev_getSR, ev_getSL, ev_all, ev_allK, ev_eqXI, ev_eqXS, ev_neXI, ev_neXS, ev_neXB, ev_eqXB, ev_eqXR, ev_neXR, ev_nil2, ev_eqK, ev_neK, ev_meth, ev_meth0, ev_mth1, ev_mth2, ev_mth3, ev_append, ev_m0, ev_m0K, ev_str, ev_for, ev_miR1, ev_rg1K, ev_miL, ev_liK, ev_miT, ev_tiK, ev_lc, ev_wipe0, ev_wipeS, ev_yes, ev_lenSet, ev_lenSetK, ev_listR, ev_lrK, ev_put2, ev_p2A, ev_p2K, ev_p2E, ev_put1, ev_pt1, ev_addXI, ev_addXB, ev_addXS, ev_addXT, ev_addXL, ev_subXI, ev_subXB, ev_mulXI, ev_mulXB, ev_mulXL, ev_negXI, ev_negXB, ev_strXI, ev_strXB, ev_mulYI, ev_mulYB, ev_mulYL, ev_mulYT, ev_dnew, ev_dnewT, ev_dgetE, ev_getD, ev_gD, ev_keyI, ev_keyS, ev_dgK, ev_dinE, ev_diK, ev_dputE, ev_dpK, ev_dget2E, ev_isDA, ev_isSome, ev_isNone, ev_dg2K, ev_dpop2E, ev_dp2K, ev_dp3S, ev_dp3N, ev_sortedE, ev_srO1, ev_srO2, ev_gLd, ev_srKS, ev_srKI, ev_gDT, ev_gT, ev_tinE, ev_tiKK, ev_keysA, ev_keysN, ev_keysC, ev_dputTE, ev_dptK, ev_dispE, ev_mpN, ev_mpC, ev_pcK, ev_dsK, ev_dsK2, ev_lc2E, ev_imp, ev_simp, ev_split, ev_splF, ev_splG, ev_fmt, ev_fmtS, ev_fmtI, ev_addK, ev_js0, ev_js1, ev_joined, ev_star, ev_starK, ev_each2, ev_each2K, ev_unl, ev_unlK, ev_intS, ev_strYS, ev_strYI, ev_mjoin, ev_joinG, ev_joinK, ev_sbind, ev_miS, ev_siK, List.getElem?_cons_zero, List.getElem?_cons_succ, List.set_cons_zero, List.set_cons_succ, List.length_cons, List.length_nil, List.cons_append, List.nil_append, if_true, if_false, Bool.false_eq_true, Bool.true_eq_false, reduceIte, Bool.not_true, Bool.not_false, Bool.and_true, Bool.true_and, Bool.and_false, Bool.false_and, Bool.or_true, Bool.true_or, Bool.or_false, Bool.false_or, decide_eq_true_eq, Nat.reduceAdd, Nat.reduceLeDiff, Nat.zero_add, Int.reduceLT, Int.reduceLE, Int.reduceEq, Int.reduceNeg, Nat.reduceEqDiff, and_self, and_true, true_and, decide_true, decide_false, eq_self, ite_true, ite_false, Int.reduceSub, Int.reduceAdd, Int.cast_ofNat_Int, Int.natCast_add, Int.cast_ofNat_Int, Nat.reduceSub, Nat.add_assoc, String.reduceBEq, String.reduceEq, Bool.or_not_self, beq_self_eq_true, cliR, j0, j1, j2, gp, gp2, zc, u1, n3, n4, u2, u3, u4]
      rw [row3]
      rfl
    · have e := strs_rows (cs.map cliR)
      have hz2 : (List.map (fun x : Str => x.length) (List.map rowT (cs.map cliR))).sum + (List.map rowT (cs.map cliR)).length * (Str.ofString ",").length ≤ 16777216 := by
        rw [show (Str.ofString ",").length = 1 by decide +kernel]
        omega
      have x3 : (3 < 16777216) = True := by decide
      have es2 : ∀ o x, (S1 ++ [x]).set (S.length + 1) o = S ++ [AO.lst (((fs.map fileR).map A.tup).map rowF), o, x] := fun o x => by
        rw [hS1, List.append_assoc, List.set_append_right _ _ (by omega), Nat.add_sub_cancel_left]
        rfl
      simp only [wp_okR, wp_okF, wp_fin, wp_next, wp_then, wp_bind, wp_nox, wp_tK, wp_bK, wp_fr, wp_fn, wp_nn, wp_nr, wp_nb, wp_nc, wp_ln, wp_lc, wp_lb, wp_lr, wp_jn, wp_jc, ev_bok, ev_bno, ev_bex, ev_tok, ev_tno, ev_tex, ev_nnx, ev_nrt, ev_nbk, ev_nct, ev_nex, ev_nno, ev_frt, ev_fnx, ev_fex, ev_xok, ev_lsome, ev_lnone, ev_seq, ev_if, ev_ret, ev_retN, ev_drop, ev_nop, ev_brk, ev_cont, ev_asgN, ev_asgT, ev_asgO, ev_mgTup, ev_mgN, ev_mgC, ev_mg0, ev_putL, ev_putO, ev_var, ev_vr, ev_c, ev_op, ev_un, ev_test, ev_tb, ev_notT, ev_andT, ev_orT, ev_ifE, ev_not, ev_nb, ev_and, ev_andK, ev_or, ev_orK, ev_chain, ev_chK, ev_nil, ev_cons, ev_tup, ev_lst, ev_new, ev_call, ev_cb, ev_size, ev_addI, ev_addS, ev_addT, ev_addL, ev_catO, ev_sub, ev_mul, ev_div, ev_mod, ev_p5, ev_p6, ev_p12, ev_p18, ev_p30, ev_neg, ev_ltI, ev_ltS, ev_leI, ev_leS, ev_gt, ev_ge, ev_eqI, ev_eqS, ev_neI, ev_neS, ev_neB, ev_eqB, ev_is, ev_isnot, ev_ixT, ev_ixS, ev_ixR, ev_ixL, ev_ixK, ev_getL, ev_getM, ev_gL, ev_gM, ev_at0, ev_at1, ev_at2, ev_at3, ev_at4, ev_lenS, ev_lenR, ev_lenT, ev_lenL, ev_lenO, ev_lenD, ev_abs, ev_min2, ev_max2, ev_intI, ev_intB, ev_set, ev_fc, ev_setset, ev_last, ev_appk, ev_app0, ev_setk, ev_set0, ev_assoc, ev_lapp, ev_lappA, ev_sl, ev_nopart, ev_part, ev_ptK, ev_slT, ev_slS, ev_slR, ev_slK, ev_tyN, ev_tyB, ev_tyI, ev_tyS, ev_tyT, ev_tyL, ev_tyR, ev_tyRL, ev_isi, ev_isi1, ev_isi2, ev_isi3, ev_isi4, ev_isi5, ev_isiT, ev_isi2K, ev_isTy, ev_list, ev_listK, ev_tuple, ev_tupK, ev_getST, ev_getSR, ev_getSL, ev_all, ev_allK, ev_eqXI, ev_eqXS, ev_neXI, ev_neXS, ev_neXB, ev_eqXB, ev_eqXR, ev_neXR, ev_nil2, ev_eqK, ev_neK, ev_meth, ev_meth0, ev_mth1, ev_mth2, ev_mth3, ev_append, ev_m0, ev_m0K, ev_str, ev_for, ev_miR1, ev_rg1K, ev_miL, ev_liK, ev_miT, ev_tiK, ev_lc, ev_wipe0, ev_wipeS, ev_yes, ev_lenSet, ev_lenSetK, ev_listR, ev_lrK, ev_put2, ev_p2A, ev_p2K, ev_p2E, ev_put1, ev_pt1, ev_addXI, ev_addXB, ev_addXS, ev_addXT, ev_addXL, ev_subXI, ev_subXB, ev_mulXI, ev_mulXB, ev_mulXL, ev_negXI, ev_negXB, ev_strXI, ev_strXB, ev_mulYI, ev_mulYB, ev_mulYL, ev_mulYT, ev_dnew, ev_dnewT, ev_dgetE, ev_getD, ev_gD, ev_keyI, ev_keyS, ev_dgK, ev_dinE, ev_diK, ev_dputE, ev_dpK, ev_dget2E, ev_isDA, ev_isSome, ev_isNone, ev_dg2K, ev_dpop2E, ev_dp2K, ev_dp3S, ev_dp3N, ev_sortedE, ev_srO1, ev_srO2, ev_gLd, ev_srKS, ev_srKI, ev_gDT, ev_gT, ev_tinE, ev_tiKK, ev_keysA, ev_keysN, ev_keysC, ev_dputTE, ev_dptK, ev_dispE, ev_mpN, ev_mpC, ev_pcK, ev_dsK, ev_dsK2, ev_lc2E, ev_imp, ev_simp, ev_split, ev_splF, ev_splG, ev_fmt, ev_fmtS, ev_fmtI, ev_addK, ev_js0, ev_js1, ev_joined, ev_star, ev_starK, ev_each2, ev_each2K, ev_unl, ev_unlK, ev_intS, ev_strYS, ev_strYI, ev_mjoin, ev_joinG, ev_joinK, ev_sbind, ev_miS, ev_siK, List.getElem?_cons_zero, List.getElem?_cons_succ, List.set_cons_zero, List.set_cons_succ, List.length_cons, List.length_nil, List.cons_append, List.nil_append, if_true, if_false, Bool.false_eq_true, Bool.true_eq_false, reduceIte, Bool.not_true, Bool.not_false, Bool.and_true, Bool.true_and, Bool.and_false, Bool.false_and, Bool.or_true, Bool.true_or, Bool.or_false, Bool.false_or, decide_eq_true_eq, Nat.reduceAdd, Nat.reduceLeDiff, Nat.zero_add, Int.reduceLT, Int.reduceLE, Int.reduceEq, Int.reduceNeg, Nat.reduceEqDiff, and_self, and_true, true_and, decide_true, decide_false, eq_self, ite_true, ite_false, Int.reduceSub, Int.reduceAdd, Int.cast_ofNat_Int, Int.natCast_add, Int.cast_ofNat_Int, Nat.reduceSub, Nat.add_assoc, String.reduceBEq, String.reduceEq, Bool.or_not_self, beq_self_eq_true, e, hz2, gW, x3, es2, i2, i3, g3, g4, n1, n2]
      have sx : ∀ a b c d e f g h : Str, strsOf [A.str a, .str b, .str c, .str d, .str e, .str f, .str g, .str h] = some [a, b, c, d, e, f, g, h] := fun _ _ _ _ _ _ _ _ => rfl
      rw [sx, ev_joinK, if_pos]
      · exact ⟨rfl, _, rfl⟩
      · have z1 : (Str.ofString "files").length = 5 := by decide +kernel
        have z2 : (Str.ofString "clients").length = 7 := by decide +kernel
        have z3 : (Str.ofString "length").length = 6 := by decide +kernel
        have z4 : (Str.ofString "drift").length = 5 := by decide +kernel
        have z5 : (Str.ofString " ").length = 1 := by decide +kernel
        have L1 : (Txt.join (Str.ofString ",") ((fs.map fileR).map rowT)).length ≤ 112 := L1
        have L2 : (Txt.join (Str.ofString ",") ((cs.map cliR).map rowT)).length ≤ 112 := L2
        simp only [List.map_cons, List.map_nil, List.sum_cons, List.sum_nil, List.length_cons, List.length_nil, z1, z2, z3, z4, z5]
        omega

/-! ### the texts that are read -/
theorem fig_mem (c : Nat) (h0 : 48 ≤ c) (h1 : c ≤ 57) : c ∈ (Str.ofString "0123456789").cps.toList := by
  have : ∀ d, d < 10 → 48 + d ∈ (Str.ofString "0123456789").cps.toList := by decide +kernel
  have := this (c - 48) (by omega)
  rwa [show 48 + (c - 48) = c by omega] at this
theorem bls_true (xs : List A) : bls (xs.map fun _ => A.bl true) = some (xs.map fun _ => true) := by
  induction xs with
  | nil => rfl
  | cons x xs ih => simp [bls, ih]
theorem all_true (xs : List A) : (xs.map fun _ => true).all id = true := by
  rw [List.all_eq_true]
  intro b hb
  obtain ⟨_, _, rfl⟩ := List.mem_map.mp hb
  rfl
theorem at0_is {α : Type} (a : α) (r : List α) : atI (a :: r) 0 = some a := by
  unfold atI
  rw [ixN_is (by decide) (by rw [List.length_cons]; omega)]
  rfl
theorem number_wp {S : Sto} {i : Int} (h0 : 0 ≤ i) (h1 : i ≤ 1000) : okR (m_number_of [.str (nS i)] S) fun y t => y = .int i ∧ ∃ l, t = S ++ l := by
  obtain ⟨hf, hi⟩ := num_at h0 h1
  obtain ⟨x, hx⟩ : ∃ x, x = nS i := ⟨_, rfl⟩
  rw [← hx] at hf hi ⊢
  unfold figs at hf
  simp only [Bool.and_eq_true, decide_eq_true_eq, Bool.or_eq_true, List.all_eq_true, Bool.not_eq_true', decide_eq_false_iff_not] at hf
  obtain ⟨⟨⟨n1, n4⟩, hc⟩, hz⟩ := hf
  rw [st_number_of]
  unfold b_number_of
  have a1 : (1 : Int) ≤ (x.length : Nat) := by omega
  have a2 : ((x.length : Nat) : Int) ≤ 12 := by omega
  have a3 : x.length ≤ 16777216 := by omega
  have a4 : x.length ≤ 640 := by omega
  have cl : x.cps.toList.length = x.length := by simp [Str.length]
  simp only [wp_okR, wp_okF, wp_fin, wp_next, wp_then, wp_bind, wp_nox, wp_tK, wp_bK, wp_fr, wp_fn, wp_nn, wp_nr, wp_nb, wp_nc, wp_ln, wp_lc, wp_lb, wp_lr, wp_jn, wp_jc, ev_bok, ev_bno, ev_bex, ev_tok, ev_tno, ev_tex, ev_nnx, ev_nrt, ev_nbk, ev_nct, ev_nex, ev_nno, ev_frt, ev_fnx, ev_fex, ev_xok, ev_lsome, ev_lnone, ev_seq, ev_if, ev_ret, ev_retN, ev_drop, ev_nop, ev_brk, ev_cont, ev_asgN, ev_asgT, ev_asgO, ev_mgTup, ev_mgN, ev_mgC, ev_mg0, ev_putL, ev_putO, ev_var, ev_vr, ev_c, ev_op, ev_un, ev_test, ev_tb, ev_notT, ev_andT, ev_orT, ev_ifE, ev_not, ev_nb, ev_and, ev_andK, ev_or, ev_orK, ev_chain, ev_chK, ev_nil, ev_cons, ev_tup, ev_lst, ev_new, ev_call, ev_cb, ev_size, ev_addI, ev_addS, ev_addT, ev_addL, ev_catO, ev_sub, ev_mul, ev_div, ev_mod, ev_p5, ev_p6, ev_p12, ev_p18, ev_p30, ev_neg, ev_ltI, ev_ltS, ev_leI, ev_leS, ev_gt, ev_ge, ev_eqI, ev_eqS, ev_neI, ev_neS, ev_neB, ev_eqB, ev_is, ev_isnot, ev_ixT, ev_ixS, ev_ixR, ev_ixL, ev_ixK, ev_getL, ev_getM, ev_gL, ev_gM, ev_at0, ev_at1, ev_at2, ev_at3, ev_at4, ev_lenS, ev_lenR, ev_lenT, ev_lenL, ev_lenO, ev_lenD, ev_abs, ev_min2, ev_max2, ev_intI, ev_intB, ev_set, ev_fc, ev_setset, ev_last, ev_appk, ev_app0, ev_setk, ev_set0, ev_assoc, ev_lapp, ev_lappA, ev_sl, ev_nopart, ev_part, ev_ptK, ev_slT, ev_slS, ev_slR, ev_slK, ev_tyN, ev_tyB, ev_tyI, ev_tyS, ev_tyT, ev_tyL, ev_tyR, ev_tyRL, ev_isi, ev_isi1, ev_isi2, ev_isi3, ev_isi4, ev_isi5, ev_isiT, ev_isi2K, ev_isTy, ev_list, ev_listK, ev_tuple, ev_tupK, ev_getST, ev_getSR, ev_getSL, ev_all, ev_allK, ev_eqXI, ev_eqXS, ev_neXI, ev_neXS, ev_neXB, ev_eqXB, ev_eqXR, ev_neXR, ev_nil2, ev_eqK, ev_neK, ev_meth, ev_meth0, ev_mth1, ev_mth2, ev_mth3, ev_append, ev_m0, ev_m0K, ev_str, ev_for, ev_miR1, ev_rg1K, ev_miL, ev_liK, ev_miT, ev_tiK, ev_lc, ev_wipe0, ev_wipeS, ev_yes, ev_lenSet, ev_lenSetK, ev_listR, ev_lrK, ev_put2, ev_p2A, ev_p2K, ev_p2E, ev_put1, ev_pt1, ev_addXI, ev_addXB, ev_addXS, ev_addXT, ev_addXL, ev_subXI, ev_subXB, ev_mulXI, ev_mulXB, ev_mulXL, ev_negXI, ev_negXB, ev_strXI, ev_strXB, ev_mulYI, ev_mulYB, ev_mulYL, ev_mulYT, ev_dnew, ev_dnewT, ev_dgetE, ev_getD, ev_gD, ev_keyI, ev_keyS, ev_dgK, ev_dinE, ev_diK, ev_dputE, ev_dpK, ev_dget2E, ev_isDA, ev_isSome, ev_isNone, ev_dg2K, ev_dpop2E, ev_dp2K, ev_dp3S, ev_dp3N, ev_sortedE, ev_srO1, ev_srO2, ev_gLd, ev_srKS, ev_srKI, ev_gDT, ev_gT, ev_tinE, ev_tiKK, ev_keysA, ev_keysN, ev_keysC, ev_dputTE, ev_dptK, ev_dispE, ev_mpN, ev_mpC, ev_pcK, ev_dsK, ev_dsK2, ev_lc2E, ev_imp, ev_simp, ev_split, ev_splF, ev_splG, ev_fmt, ev_fmtS, ev_fmtI, ev_addK, ev_js0, ev_js1, ev_joined, ev_star, ev_starK, ev_each2, ev_each2K, ev_unl, ev_unlK, ev_intS, ev_strYS, ev_strYI, ev_mjoin, ev_joinG, ev_joinK, ev_sbind, ev_miS, ev_siK, List.getElem?_cons_zero, List.getElem?_cons_succ, List.set_cons_zero, List.set_cons_succ, List.length_cons, List.length_nil, List.cons_append, List.nil_append, if_true, if_false, Bool.false_eq_true, Bool.true_eq_false, reduceIte, Bool.not_true, Bool.not_false, Bool.and_true, Bool.true_and, Bool.and_false, Bool.false_and, Bool.or_true, Bool.true_or, Bool.or_false, Bool.false_or, decide_eq_true_eq, Nat.reduceAdd, Nat.reduceLeDiff, Nat.zero_add, Int.reduceLT, Int.reduceLE, Int.reduceEq, Int.reduceNeg, Nat.reduceEqDiff, and_self, and_true, true_and, decide_true, decide_false, eq_self, ite_true, ite_false, Int.reduceSub, Int.reduceAdd, Int.cast_ofNat_Int, Int.natCast_add, Int.cast_ofNat_Int, Nat.reduceSub, Nat.add_assoc, String.reduceBEq, String.reduceEq, Bool.or_not_self, beq_self_eq_true, a1, a2, a3]
  refine lc_P (fun _ => .bl true) (fun _ => trivial) (by unfold signs; rw [List.length_map]; omega) (fun y hy => ?_) ?_
  · unfold signs at hy
    obtain ⟨c, hc', rfl⟩ := List.mem_map.mp hy
    have hm := hc c hc'
    have e : ∀ k, oInX (.str ⟨#[c]⟩) (.str (Str.ofString "0123456789")) (S ++ k) = .ok (.bl (decide (c ∈ (Str.ofString "0123456789").cps.toList))) (S ++ k) := fun _ => rfl
    refine ⟨_, rfl, fun k => ?_⟩
    simp only [wp_okR, wp_okF, wp_fin, wp_next, wp_then, wp_bind, wp_nox, wp_tK, wp_bK, wp_fr, wp_fn, wp_nn, wp_nr, wp_nb, wp_nc, wp_ln, wp_lc, wp_lb, wp_lr, wp_jn, wp_jc, ev_bok, ev_bno, ev_bex, ev_tok, ev_tno, ev_tex, ev_nnx, ev_nrt, ev_nbk, ev_nct, ev_nex, ev_nno, ev_frt, ev_fnx, ev_fex, ev_xok, ev_lsome, ev_lnone, ev_seq, ev_if, ev_ret, ev_retN, ev_drop, ev_nop, ev_brk, ev_cont, ev_asgN, ev_asgT, ev_asgO, ev_mgTup, ev_mgN, ev_mgC, ev_mg0, ev_putL, ev_putO, ev_var, ev_vr, ev_c, ev_op, ev_un, ev_test, ev_tb, ev_notT, ev_andT, ev_orT, ev_ifE, ev_not, ev_nb, ev_and, ev_andK, ev_or, ev_orK, ev_chain, ev_chK, ev_nil, ev_cons, ev_tup, ev_lst, ev_new, ev_call, ev_cb, ev_size, ev_addI, ev_addS, ev_addT, ev_addL, ev_catO, ev_sub, ev_mul, ev_div, ev_mod, ev_p5, ev_p6, ev_p12, ev_p18, ev_p30, ev_neg, ev_ltI, ev_ltS, ev_leI, ev_leS, ev_gt, ev_ge, ev_eqI, ev_eqS, ev_neI, ev_neS, ev_neB, ev_eqB, ev_is, ev_isnot, ev_ixT, ev_ixS, ev_ixR, ev_ixL, ev_ixK, ev_getL, ev_getM, ev_gL, ev_gM, ev_at0, ev_at1, ev_at2, ev_at3, ev_at4, ev_lenS, ev_lenR, ev_lenT, ev_lenL, ev_lenO, ev_lenD, ev_abs, ev_min2, ev_max2, ev_intI, ev_intB, ev_set, ev_fc, ev_setset, ev_last, ev_appk, ev_app0, ev_setk, ev_set0, ev_assoc, ev_lapp, ev_lappA, ev_sl, ev_nopart, ev_part, ev_ptK, ev_slT, ev_slS, ev_slR, ev_slK, ev_tyN, ev_tyB, ev_tyI, ev_tyS, ev_tyT, ev_tyL, ev_tyR, ev_tyRL, ev_isi, ev_isi1, ev_isi2, ev_isi3, ev_isi4, ev_isi5, ev_isiT, ev_isi2K, ev_isTy, ev_list, ev_listK, ev_tuple, ev_tupK, ev_getST, ev_getSR, ev_getSL, ev_all, ev_allK, ev_eqXI, ev_eqXS, ev_neXI, ev_neXS, ev_neXB, ev_eqXB, ev_eqXR, ev_neXR, ev_nil2, ev_eqK, ev_neK, ev_meth, ev_meth0, ev_mth1, ev_mth2, ev_mth3, ev_append, ev_m0, ev_m0K, ev_str, ev_for, ev_miR1, ev_rg1K, ev_miL, ev_liK, ev_miT, ev_tiK, ev_lc, ev_wipe0, ev_wipeS, ev_yes, ev_lenSet, ev_lenSetK, ev_listR, ev_lrK, ev_put2, ev_p2A, ev_p2K, ev_p2E, ev_put1, ev_pt1, ev_addXI, ev_addXB, ev_addXS, ev_addXT, ev_addXL, ev_subXI, ev_subXB, ev_mulXI, ev_mulXB, ev_mulXL, ev_negXI, ev_negXB, ev_strXI, ev_strXB, ev_mulYI, ev_mulYB, ev_mulYL, ev_mulYT, ev_dnew, ev_dnewT, ev_dgetE, ev_getD, ev_gD, ev_keyI, ev_keyS, ev_dgK, ev_dinE, ev_diK, ev_dputE, ev_dpK, ev_dget2E, ev_isDA, ev_isSome, ev_isNone, ev_dg2K, ev_dpop2E, ev_dp2K, ev_dp3S, ev_dp3N, ev_sortedE, ev_srO1, ev_srO2, ev_gLd, ev_srKS, ev_srKI, ev_gDT, ev_gT, ev_tinE, ev_tiKK, ev_keysA, ev_keysN, ev_keysC, ev_dputTE, ev_dptK, ev_dispE, ev_mpN, ev_mpC, ev_pcK, ev_dsK, ev_dsK2, ev_lc2E, ev_imp, ev_simp, ev_split, ev_splF, ev_splG, ev_fmt, ev_fmtS, ev_fmtI, ev_addK, ev_js0, ev_js1, ev_joined, ev_star, ev_starK, ev_each2, ev_each2K, ev_unl, ev_unlK, ev_intS, ev_strYS, ev_strYI, ev_mjoin, ev_joinG, ev_joinK, ev_sbind, ev_miS, ev_siK, List.getElem?_cons_zero, List.getElem?_cons_succ, List.set_cons_zero, List.set_cons_succ, List.length_cons, List.length_nil, List.cons_append, List.nil_append, if_true, if_false, Bool.false_eq_true, Bool.true_eq_false, reduceIte, Bool.not_true, Bool.not_false, Bool.and_true, Bool.true_and, Bool.and_false, Bool.false_and, Bool.or_true, Bool.true_or, Bool.or_false, Bool.false_or, decide_eq_true_eq, Nat.reduceAdd, Nat.reduceLeDiff, Nat.zero_add, Int.reduceLT, Int.reduceLE, Int.reduceEq, Int.reduceNeg, Nat.reduceEqDiff, and_self, and_true, true_and, decide_true, decide_false, eq_self, ite_true, ite_false, Int.reduceSub, Int.reduceAdd, Int.cast_ofNat_Int, Int.natCast_add, Int.cast_ofNat_Int, Nat.reduceSub, Nat.add_assoc, String.reduceBEq, String.reduceEq, Bool.or_not_self, beq_self_eq_true, e, fig_mem c hm.1 hm.2]
  · have lf : ∀ (a : A) (s : Sto), lift (some a) s = .ok a s := fun _ _ => rfl
    obtain ⟨c0, r, hc0⟩ : ∃ c0 r, x.cps.toList = c0 :: r := by
      cases hr : x.cps.toList with
      | nil =>
        rw [hr] at cl
        have cl : 0 = x.length := cl
        omega
      | cons a r => exact ⟨a, r, rfl⟩
    have at0 : atI x.cps.toList 0 = some c0 := by
      rw [hc0]
      exact at0_is _ _
    have zz : Str.ofString "0" = ⟨#[48]⟩ := by decide +kernel
    by_cases hz0 : c0 = 48
    · have xz : x = Str.ofString "0" := by
        rcases hz with hz | hz
        · rw [hc0, hz0] at hz
          exact absurd rfl hz
        · exact hz
      have d1 : decide ((⟨#[c0]⟩ : Str) = Str.ofString "0") = true := by rw [zz, hz0]; rfl
      have d2 : decide (x = Str.ofString "0") = true := decide_eq_true xz
      simp only [wp_okR, wp_okF, wp_fin, wp_next, wp_then, wp_bind, wp_nox, wp_tK, wp_bK, wp_fr, wp_fn, wp_nn, wp_nr, wp_nb, wp_nc, wp_ln, wp_lc, wp_lb, wp_lr, wp_jn, wp_jc, ev_bok, ev_bno, ev_bex, ev_tok, ev_tno, ev_tex, ev_nnx, ev_nrt, ev_nbk, ev_nct, ev_nex, ev_nno, ev_frt, ev_fnx, ev_fex, ev_xok, ev_lsome, ev_lnone, ev_seq, ev_if, ev_ret, ev_retN, ev_drop, ev_nop, ev_brk, ev_cont, ev_asgN, ev_asgT, ev_asgO, ev_mgTup, ev_mgN, ev_mgC, ev_mg0, ev_putL, ev_putO, ev_var, ev_vr, ev_c, ev_op, ev_un, ev_test, ev_tb, ev_notT, ev_andT, ev_orT, ev_ifE, ev_not, ev_nb, ev_and, ev_andK, ev_or, ev_orK, ev_chain, ev_chK, ev_nil, ev_cons, ev_tup, ev_lst, ev_new, ev_call, ev_cb, ev_size, ev_addI, ev_addS, ev_addT, ev_addL, ev_catO, ev_sub, ev_mul, ev_div, ev_mod, ev_p5, ev_p6, ev_p12, ev_p18, ev_p30, ev_neg, ev_ltI, ev_ltS, ev_leI, ev_leS, ev_gt, ev_ge, ev_eqI, ev_eqS, ev_neI, ev_neS, ev_neB, ev_eqB, ev_is, ev_isnot, ev_ixT, ev_ixS, ev_ixR, ev_ixL, ev_ixK, ev_getL, ev_getM, ev_gL, ev_gM, ev_at0, ev_at1, ev_at2, ev_at3, ev_at4, ev_lenS, ev_lenR, ev_lenT, ev_lenL, ev_lenO, ev_lenD, ev_abs, ev_min2, ev_max2, ev_intI, ev_intB, ev_set, ev_fc, ev_setset, ev_last, ev_appk, ev_app0, ev_setk, ev_set0, ev_assoc, ev_lapp, ev_lappA, ev_sl, ev_nopart, ev_part, ev_ptK, ev_slT, ev_slS, ev_slR, ev_slK, ev_tyN, ev_tyB, ev_tyI, ev_tyS, ev_tyT, ev_tyL, ev_tyR, ev_tyRL, ev_isi, ev_isi1, ev_isi2, ev_isi3, ev_isi4, ev_isi5, ev_isiT, ev_isi2K, ev_isTy, ev_list, ev_listK, ev_tuple, ev_tupK, ev_getST, ev_getSR, ev_getSL, ev_all, ev_allK, ev_eqXI, ev_eqXS, ev_neXI, ev_neXS, ev_neXB, ev_eqXB, ev_eqXR, ev_neXR, ev_nil2, ev_eqK, ev_neK, ev_meth, ev_meth0, ev_mth1, ev_mth2, ev_mth3, ev_append, ev_m0, ev_m0K, ev_str, ev_for, ev_miR1, ev_rg1K, ev_miL, ev_liK, ev_miT, ev_tiK, ev_lc, ev_wipe0, ev_wipeS, ev_yes, ev_lenSet, ev_lenSetK, ev_listR, ev_lrK, ev_put2, ev_p2A, ev_p2K, ev_p2E, ev_put1, ev_pt1, ev_addXI, ev_addXB, ev_addXS, ev_addXT, ev_addXL, ev_subXI, ev_subXB, ev_mulXI, ev_mulXB, ev_mulXL, ev_negXI, ev_negXB, ev_strXI, ev_strXB, ev_mulYI, ev_mulYB, ev_mulYL, ev_mulYT, ev_dnew, ev_dnewT, ev_dgetE, ev_getD, ev_gD, ev_keyI, ev_keyS, ev_dgK, ev_dinE, ev_diK, ev_dputE, ev_dpK, ev_dget2E, ev_isDA, ev_isSome, ev_isNone, ev_dg2K, ev_dpop2E, ev_dp2K, ev_dp3S, ev_dp3N, ev_sortedE, ev_srO1, ev_srO2, ev_gLd, ev_srKS, ev_srKI, ev_gDT, ev_gT, ev_tinE, ev_tiKK, ev_keysA, ev_keysN, ev_keysC, ev_dputTE, ev_dptK, ev_dispE, ev_mpN, ev_mpC, ev_pcK, ev_dsK, ev_dsK2, ev_lc2E, ev_imp, ev_simp, ev_split, ev_splF, ev_splG, ev_fmt, ev_fmtS, ev_fmtI, ev_addK, ev_js0, ev_js1, ev_joined, ev_star, ev_starK, ev_each2, ev_each2K, ev_unl, ev_unlK, ev_intS, ev_strYS, ev_strYI, ev_mjoin, ev_joinG, ev_joinK, ev_sbind, ev_miS, ev_siK, List.getElem?_cons_zero, List.getElem?_cons_succ, List.set_cons_zero, List.set_cons_succ, List.length_cons, List.length_nil, List.cons_append, List.nil_append, if_true, if_false, Bool.false_eq_true, Bool.true_eq_false, reduceIte, Bool.not_true, Bool.not_false, Bool.and_true, Bool.true_and, Bool.and_false, Bool.false_and, Bool.or_true, Bool.true_or, Bool.or_false, Bool.false_or, decide_eq_true_eq, Nat.reduceAdd, Nat.reduceLeDiff, Nat.zero_add, Int.reduceLT, Int.reduceLE, Int.reduceEq, Int.reduceNeg, Nat.reduceEqDiff, and_self, and_true, true_and, decide_true, decide_false, eq_self, ite_true, ite_false, Int.reduceSub, Int.reduceAdd, Int.cast_ofNat_Int, Int.natCast_add, Int.cast_ofNat_Int, Nat.reduceSub, Nat.add_assoc, String.reduceBEq, String.reduceEq, Bool.or_not_self, beq_self_eq_true, bls_true, Option.map_some, all_true, lf, at0, a3, a4, d1, d2, hi]
      exact ⟨_, rfl⟩
    · have d1 : decide ((⟨#[c0]⟩ : Str) = Str.ofString "0") = false := decide_eq_false fun e => hz0 (by
        rw [zz] at e
        have := congrArg (fun y : Str => y.cps.toList) e
        simpa using this)
      simp only [wp_okR, wp_okF, wp_fin, wp_next, wp_then, wp_bind, wp_nox, wp_tK, wp_bK, wp_fr, wp_fn, wp_nn, wp_nr, wp_nb, wp_nc, wp_ln, wp_lc, wp_lb, wp_lr, wp_jn, wp_jc, ev_bok, ev_bno, ev_bex, ev_tok, ev_tno, ev_tex, ev_nnx, ev_nrt, ev_nbk, ev_nct, ev_nex, ev_nno, ev_frt, ev_fnx, ev_fex, ev_xok, ev_lsome, ev_lnone, ev_seq, ev_if, ev_ret, ev_retN, ev_drop, ev_nop, ev_brk, ev_cont, ev_asgN, ev_asgT, ev_asgO, ev_mgTup, ev_mgN, ev_mgC, ev_mg0, ev_putL, ev_putO, ev_var, ev_vr, ev_c, ev_op, ev_un, ev_test, ev_tb, ev_notT, ev_andT, ev_orT, ev_ifE, ev_not, ev_nb, ev_and, ev_andK, ev_or, ev_orK, ev_chain, ev_chK, ev_nil, ev_cons, ev_tup, ev_lst, ev_new, ev_call, ev_cb, ev_size, ev_addI, ev_addS, ev_addT, ev_addL, ev_catO, ev_sub, ev_mul, ev_div, ev_mod, ev_p5, ev_p6, ev_p12, ev_p18, ev_p30, ev_neg, ev_ltI, ev_ltS, ev_leI, ev_leS, ev_gt, ev_ge, ev_eqI, ev_eqS, ev_neI, ev_neS, ev_neB, ev_eqB, ev_is, ev_isnot, ev_ixT, ev_ixS, ev_ixR, ev_ixL, ev_ixK, ev_getL, ev_getM, ev_gL, ev_gM, ev_at0, ev_at1, ev_at2, ev_at3, ev_at4, ev_lenS, ev_lenR, ev_lenT, ev_lenL, ev_lenO, ev_lenD, ev_abs, ev_min2, ev_max2, ev_intI, ev_intB, ev_set, ev_fc, ev_setset, ev_last, ev_appk, ev_app0, ev_setk, ev_set0, ev_assoc, ev_lapp, ev_lappA, ev_sl, ev_nopart, ev_part, ev_ptK, ev_slT, ev_slS, ev_slR, ev_slK, ev_tyN, ev_tyB, ev_tyI, ev_tyS, ev_tyT, ev_tyL, ev_tyR, ev_tyRL, ev_isi, ev_isi1, ev_isi2, ev_isi3, ev_isi4, ev_isi5, ev_isiT, ev_isi2K, ev_isTy, ev_list, ev_listK, ev_tuple, ev_tupK, ev_getST, ev_getSR, ev_getSL, ev_all, ev_allK, ev_eqXI, ev_eqXS, ev_neXI, ev_neXS, ev_neXB, ev_eqXB, ev_eqXR, ev_neXR, ev_nil2, ev_eqK, ev_neK, ev_meth, ev_meth0, ev_mth1, ev_mth2, ev_mth3, ev_append, ev_m0, ev_m0K, ev_str, ev_for, ev_miR1, ev_rg1K, ev_miL, ev_liK, ev_miT, ev_tiK, ev_lc, ev_wipe0, ev_wipeS, ev_yes, ev_lenSet, ev_lenSetK, ev_listR, ev_lrK, ev_put2, ev_p2A, ev_p2K, ev_p2E, ev_put1, ev_pt1, ev_addXI, ev_addXB, ev_addXS, ev_addXT, ev_addXL, ev_subXI, ev_subXB, ev_mulXI, ev_mulXB, ev_mulXL, ev_negXI, ev_negXB, ev_strXI, ev_strXB, ev_mulYI, ev_mulYB, ev_mulYL, ev_mulYT, ev_dnew, ev_dnewT, ev_dgetE, ev_getD, ev_gD, ev_keyI, ev_keyS, ev_dgK, ev_dinE, ev_diK, ev_dputE, ev_dpK, ev_dget2E, ev_isDA, ev_isSome, ev_isNone, ev_dg2K, ev_dpop2E, ev_dp2K, ev_dp3S, ev_dp3N, ev_sortedE, ev_srO1, ev_srO2, ev_gLd, ev_srKS, ev_srKI, ev_gDT, ev_gT, ev_tinE, ev_tiKK, ev_keysA, ev_keysN, ev_keysC, ev_dputTE, ev_dptK, ev_dispE, ev_mpN, ev_mpC, ev_pcK, ev_dsK, ev_dsK2, ev_lc2E, ev_imp, ev_simp, ev_split, ev_splF, ev_splG, ev_fmt, ev_fmtS, ev_fmtI, ev_addK, ev_js0, ev_js1, ev_joined, ev_star, ev_starK, ev_each2, ev_each2K, ev_unl, ev_unlK, ev_intS, ev_strYS, ev_strYI, ev_mjoin, ev_joinG, ev_joinK, ev_sbind, ev_miS, ev_siK, List.getElem?_cons_zero, List.getElem?_cons_succ, List.set_cons_zero, List.set_cons_succ, List.length_cons, List.length_nil, List.cons_append, List.nil_append, if_true, if_false, Bool.false_eq_true, Bool.true_eq_false, reduceIte, Bool.not_true, Bool.not_false, Bool.and_true, Bool.true_and, Bool.and_false, Bool.false_and, Bool.or_true, Bool.true_or, Bool.or_false, Bool.false_or, decide_eq_true_eq, Nat.reduceAdd, Nat.reduceLeDiff, Nat.zero_add, Int.reduceLT, Int.reduceLE, Int.reduceEq, Int.reduceNeg, Nat.reduceEqDiff, and_self, and_true, true_and, decide_true, decide_false, eq_self, ite_true, ite_false, Int.reduceSub, Int.reduceAdd, Int.cast_ofNat_Int, Int.natCast_add, Int.cast_ofNat_Int, Nat.reduceSub, Nat.add_assoc, String.reduceBEq, String.reduceEq, Bool.or_not_self, beq_self_eq_true, bls_true, Option.map_some, all_true, lf, at0, a3, a4, d1, hi]
      exact ⟨_, rfl⟩
/-- a row, read from its text -/
def numI (i : Int) : Prop := 0 ≤ i ∧ i ≤ 1000
theorem num_free {i : Int} (h : numI i) {c : Nat} (hc : ¬ (48 ≤ c ∧ c ≤ 57)) : c ∉ (nS i).cps.toList := fun hm => by
  have hf := (num_at h.1 h.2).1
  unfold figs at hf
  simp only [Bool.and_eq_true, decide_eq_true_eq, List.all_eq_true] at hf
  exact hc (hf.1.2 c hm)
theorem name_free {x : Str} (h : nameP x) {c : Nat} (hc : c < 97) : c ∉ x.cps.toList := fun hm => by
  have := h.2.2 c hm
  omega
def rowG (n : Str) (is : List Int) : List A := .str n :: is.map A.int
theorem rowG_words (n : Str) (is : List Int) : (rowG n is).map wordA = n :: is.map nS := by
  unfold rowG
  rw [List.map_cons, List.map_map]
  rfl
theorem row_split {n : Str} {is : List Int} (hn : nameP n) (hi : ∀ i ∈ is, numI i) : Txt.split (rowT (rowG n is)) (Str.ofString ":") = n :: is.map nS := by
  unfold rowT
  rw [lit_colon, rowG_words]
  refine split_join (fun h => by cases h) fun x hx => ?_
  rcases List.mem_cons.mp hx with rfl | hx
  · exact name_free hn (by decide)
  · obtain ⟨i, h1, rfl⟩ := List.mem_map.mp hx
    exact num_free (hi i h1) (by decide)
theorem rowG_ok {n : Str} {is : List Int} (hn : nameP n) (hi : ∀ i ∈ is, numI i) : ∀ a ∈ rowG n is, okItem a := fun a ha => by
  rcases List.mem_cons.mp ha with rfl | ha
  · exact .inl ⟨_, rfl, hn.2.1⟩
  · obtain ⟨i, h1, rfl⟩ := List.mem_map.mp ha
    exact .inr ⟨i, rfl, hi i h1⟩
theorem cut_one (a : A) (r : List A) : cutA (a :: r) (some 1) none = r := by
  unfold cutA
  rw [show ((1 : Int)) = ((1 : Nat) : Int) from rfl, HT.sIx_none, HT.sIx_nat]
  rw [List.length_cons, Nat.min_eq_left (by omega)]
  simp
def numF : A → A
  | .str x => match PySem.intText? x with
    | some n => .int n
    | none => .non
  | _ => .non
theorem row_wp {S : Sto} {n : Str} {is : List Int} (hn : nameP n) (hi : ∀ i ∈ is, numI i) (hl : is.length ≤ 2) : okR (m_row_of [.str (rowT (rowG n is))] S) fun y t => y = .tup (rowG n is) ∧ ∃ l, t = S ++ l := by
  have L := rowT_len (r := rowG n is) (by unfold rowG; rw [List.length_cons, List.length_map]; omega) (rowG_ok hn hi)
  have e := row_split hn hi
  have u1 : (rowT (rowG n is)).length + 2 ≤ 16777216 := by omega
  have u2 : ((Str.ofString ":").length == 0) = false := by decide +kernel
  rw [st_row_of]
  unfold b_row_of
  have ec : cutA (List.map A.str (n :: is.map nS)) (some 1) none = (is.map nS).map A.str := cut_one _ _
  simp only [wp_okR, wp_okF, wp_fin, wp_next, wp_then, wp_bind, wp_nox, wp_tK, wp_bK, wp_fr, wp_fn, wp_nn, wp_nr, wp_nb, wp_nc, wp_ln, wp_lc, wp_lb, wp_lr, wp_jn, wp_jc, ev_bok, ev_bno, ev_bex, ev_tok, ev_tno, ev_tex, ev_nnx, ev_nrt, ev_nbk, ev_nct, ev_nex, ev_nno, ev_frt, ev_fnx, ev_fex, ev_xok, ev_lsome, ev_lnone, ev_seq, ev_if, ev_ret, ev_retN, ev_drop, ev_nop, ev_brk, ev_cont, ev_asgN, ev_asgT, ev_asgO, ev_mgTup, ev_mgN, ev_mgC, ev_mg0, ev_putL, ev_putO, ev_var, ev_vr, ev_c, ev_op, ev_un, ev_test, ev_tb, ev_notT, ev_andT, ev_orT, ev_ifE, ev_not, ev_nb, ev_and, ev_andK, ev_or, ev_orK, ev_chain, ev_chK, ev_nil, ev_cons, ev_tup, ev_lst, ev_new, ev_call, ev_cb, ev_size, ev_addI, ev_addS, ev_addT, ev_addL, ev_catO, ev_sub, ev_mul, ev_div, ev_mod, ev_p5, ev_p6, ev_p12, ev_p18, ev_p30, ev_neg, ev_ltI, ev_ltS, ev_leI, ev_leS, ev_gt, ev_ge, ev_eqI, ev_eqS, ev_neI, ev_neS, ev_neB, ev_eqB, ev_is, ev_isnot, ev_ixT, ev_ixS, ev_ixR, ev_ixL, ev_ixK, ev_getL, ev_getM, ev_gL, ev_gM, ev_at0, ev_at1, ev_at2, ev_at3, ev_at4, ev_lenS, ev_lenR, ev_lenT, ev_lenL, ev_lenO, ev_lenD, ev_abs, ev_min2, ev_max2, ev_intI, ev_intB, ev_set, ev_fc, ev_setset, ev_last, ev_appk, ev_app0, ev_setk, ev_set0, ev_assoc, ev_lapp, ev_lappA, ev_sl, ev_nopart, ev_part, ev_ptK, ev_slT, ev_slS, ev_slR, ev_slK, ev_tyN, ev_tyB, ev_tyI, ev_tyS, ev_tyT, ev_tyL, ev_tyR, ev_tyRL, ev_isi, ev_isi1, ev_isi2, ev_isi3, ev_isi4, ev_isi5, ev_isiT, ev_isi2K, ev_isTy, ev_list, ev_listK, ev_tuple, ev_tupK, ev_getST, ev_getSR, ev_getSL, ev_all, ev_allK, ev_eqXI, ev_eqXS, ev_neXI, ev_neXS, ev_neXB, ev_eqXB, ev_eqXR, ev_neXR, ev_nil2, ev_eqK, ev_neK, ev_meth, ev_meth0, ev_mth1, ev_mth2, ev_mth3, ev_append, ev_m0, ev_m0K, ev_str, ev_for, ev_miR1, ev_rg1K, ev_miL, ev_liK, ev_miT, ev_tiK, ev_lc, ev_wipe0, ev_wipeS, ev_yes, ev_lenSet, ev_lenSetK, ev_listR, ev_lrK, ev_put2, ev_p2A, ev_p2K, ev_p2E, ev_put1, ev_pt1, ev_addXI, ev_addXB, ev_addXS, ev_addXT, ev_addXL, ev_subXI, ev_subXB, ev_mulXI, ev_mulXB, ev_mulXL, ev_negXI, ev_negXB, ev_strXI, ev_strXB, ev_mulYI, ev_mulYB, ev_mulYL, ev_mulYT, ev_dnew, ev_dnewT, ev_dgetE, ev_getD, ev_gD, ev_keyI, ev_keyS, ev_dgK, ev_dinE, ev_diK, ev_dputE, ev_dpK, ev_dget2E, ev_isDA, ev_isSome, ev_isNone, ev_dg2K, ev_dpop2E, ev_dp2K, ev_dp3S, ev_dp3N, ev_sortedE, ev_srO1, ev_srO2, ev_gLd, ev_srKS, ev_srKI, ev_gDT, ev_gT, ev_tinE, ev_tiKK, ev_keysA, ev_keysN, ev_keysC, ev_dputTE, ev_dptK, ev_dispE, ev_mpN, ev_mpC, ev_pcK, ev_dsK, ev_dsK2, ev_lc2E, ev_imp, ev_simp, ev_split, ev_splF, ev_splG, ev_fmt, ev_fmtS, ev_fmtI, ev_addK, ev_js0, ev_js1, ev_joined, ev_star, ev_starK, ev_each2, ev_each2K, ev_unl, ev_unlK, ev_intS, ev_strYS, ev_strYI, ev_mjoin, ev_joinG, ev_joinK, ev_sbind, ev_miS, ev_siK, List.getElem?_cons_zero, List.getElem?_cons_succ, List.set_cons_zero, List.set_cons_succ, List.length_cons, List.length_nil, List.cons_append, List.nil_append, if_true, if_false, Bool.false_eq_true, Bool.true_eq_false, reduceIte, Bool.not_true, Bool.not_false, Bool.and_true, Bool.true_and, Bool.and_false, Bool.false_and, Bool.or_true, Bool.true_or, Bool.or_false, Bool.false_or, decide_eq_true_eq, Nat.reduceAdd, Nat.reduceLeDiff, Nat.zero_add, Int.reduceLT, Int.reduceLE, Int.reduceEq, Int.reduceNeg, Nat.reduceEqDiff, and_self, and_true, true_and, decide_true, decide_false, eq_self, ite_true, ite_false, Int.reduceSub, Int.reduceAdd, Int.cast_ofNat_Int, Int.natCast_add, Int.cast_ofNat_Int, Nat.reduceSub, Nat.add_assoc, String.reduceBEq, String.reduceEq, Bool.or_not_self, beq_self_eq_true, u1, u2, e]
  rw [ec]
  obtain ⟨S1, hS1⟩ : ∃ S1, S1 = S ++ [AO.lst (List.map A.str (n :: is.map nS)), AO.lst ((is.map nS).map A.str)] := ⟨_, rfl⟩
  have z1 : S.length + 2 = S1.length := by rw [hS1, List.length_append]; rfl
  have es : S ++ [AO.lst (List.map A.str (n :: is.map nS)), AO.lst ((is.map nS).map A.str), AO.lst []] = S1 ++ [AO.lst []] := by
    rw [hS1, List.append_assoc]
    rfl
  have g0 : ∀ k, (S1 ++ k)[S.length]? = some (AO.lst (A.str n :: (is.map nS).map A.str)) := fun k => by
    rw [hS1, List.append_assoc, List.getElem?_append_right (by omega), Nat.sub_self]
    rfl
  have g1 : ∀ k, (S1 ++ k)[S.length + 1]? = some (AO.lst ((is.map nS).map A.str)) := fun k => by
    rw [hS1, List.append_assoc, List.getElem?_append_right (by omega), Nat.add_sub_cancel_left]
    rfl
  rw [es, z1]
  refine lc_M numF (fun k => ?_) (by rw [List.length_map, List.length_map]; omega) (fun x hx => ?_) (fun l' => ?_)
  · show getL (S1 ++ k) (.ref (S.length + 1)) = _
    rw [ev_getL, g1]
    rfl
  · obtain ⟨y, hy, rfl⟩ := List.mem_map.mp hx
    obtain ⟨i, h1, rfl⟩ := List.mem_map.mp hy
    refine ⟨_, rfl, fun k => ?_⟩
    have hh := hi i h1
    simp only [wp_okR, wp_okF, wp_fin, wp_next, wp_then, wp_bind, wp_nox, wp_tK, wp_bK, wp_fr, wp_fn, wp_nn, wp_nr, wp_nb, wp_nc, wp_ln, wp_lc, wp_lb, wp_lr, wp_jn, wp_jc, ev_bok, ev_bno, ev_bex, ev_tok, ev_tno, ev_tex, ev_nnx, ev_nrt, ev_nbk, ev_nct, ev_nex, ev_nno, ev_frt, ev_fnx, ev_fex, ev_xok, ev_lsome, ev_lnone, ev_seq, ev_if, ev_ret, ev_retN, ev_drop, ev_nop, ev_brk, ev_cont, ev_asgN, ev_asgT, ev_asgO, ev_mgTup, ev_mgN, ev_mgC, ev_mg0, ev_putL, ev_putO, ev_var, ev_vr, ev_c, ev_op, ev_un, ev_test, ev_tb, ev_notT, ev_andT, ev_orT, ev_ifE, ev_not, ev_nb, ev_and, ev_andK, ev_or, ev_orK, ev_chain, ev_chK, ev_nil, ev_cons, ev_tup, ev_lst, ev_new, ev_call, ev_cb, ev_size, ev_addI, ev_addS, ev_addT, ev_addL, ev_catO, ev_sub, ev_mul, ev_div, ev_mod, ev_p5, ev_p6, ev_p12, ev_p18, ev_p30, ev_neg, ev_ltI, ev_ltS, ev_leI, ev_leS, ev_gt, ev_ge, ev_eqI, ev_eqS, ev_neI, ev_neS, ev_neB, ev_eqB, ev_is, ev_isnot, ev_ixT, ev_ixS, ev_ixR, ev_ixL, ev_ixK, ev_getL, ev_getM, ev_gL, ev_gM, ev_at0, ev_at1, ev_at2, ev_at3, ev_at4, ev_lenS, ev_lenR, ev_lenT, ev_lenL, ev_lenO, ev_lenD, ev_abs, ev_min2, ev_max2, ev_intI, ev_intB, ev_set, ev_fc, ev_setset, ev_last, ev_appk, ev_app0, ev_setk, ev_set0, ev_assoc, ev_lapp, ev_lappA, ev_sl, ev_nopart, ev_part, ev_ptK, ev_slT, ev_slS, ev_slR, ev_slK, ev_tyN, ev_tyB, ev_tyI, ev_tyS, ev_tyT, ev_tyL, ev_tyR, ev_tyRL, ev_isi, ev_isi1, ev_isi2, ev_isi3, ev_isi4, ev_isi5, ev_isiT, ev_isi2K, ev_isTy, ev_list, ev_listK, ev_tuple, ev_tupK, ev_getST, ev_getSR, ev_getSL, ev_all, ev_allK, ev_eqXI, ev_eqXS, ev_neXI, ev_neXS, ev_neXB, ev_eqXB, ev_eqXR, ev_neXR, ev_nil2, ev_eqK, ev_neK, ev_meth, ev_meth0, ev_mth1, ev_mth2, ev_mth3, ev_append, ev_m0, ev_m0K, ev_str, ev_for, ev_miR1, ev_rg1K, ev_miL, ev_liK, ev_miT, ev_tiK, ev_lc, ev_wipe0, ev_wipeS, ev_yes, ev_lenSet, ev_lenSetK, ev_listR, ev_lrK, ev_put2, ev_p2A, ev_p2K, ev_p2E, ev_put1, ev_pt1, ev_addXI, ev_addXB, ev_addXS, ev_addXT, ev_addXL, ev_subXI, ev_subXB, ev_mulXI, ev_mulXB, ev_mulXL, ev_negXI, ev_negXB, ev_strXI, ev_strXB, ev_mulYI, ev_mulYB, ev_mulYL, ev_mulYT, ev_dnew, ev_dnewT, ev_dgetE, ev_getD, ev_gD, ev_keyI, ev_keyS, ev_dgK, ev_dinE, ev_diK, ev_dputE, ev_dpK, ev_dget2E, ev_isDA, ev_isSome, ev_isNone, ev_dg2K, ev_dpop2E, ev_dp2K, ev_dp3S, ev_dp3N, ev_sortedE, ev_srO1, ev_srO2, ev_gLd, ev_srKS, ev_srKI, ev_gDT, ev_gT, ev_tinE, ev_tiKK, ev_keysA, ev_keysN, ev_keysC, ev_dputTE, ev_dptK, ev_dispE, ev_mpN, ev_mpC, ev_pcK, ev_dsK, ev_dsK2, ev_lc2E, ev_imp, ev_simp, ev_split, ev_splF, ev_splG, ev_fmt, ev_fmtS, ev_fmtI, ev_addK, ev_js0, ev_js1, ev_joined, ev_star, ev_starK, ev_each2, ev_each2K, ev_unl, ev_unlK, ev_intS, ev_strYS, ev_strYI, ev_mjoin, ev_joinG, ev_joinK, ev_sbind, ev_miS, ev_siK, List.getElem?_cons_zero, List.getElem?_cons_succ, List.set_cons_zero, List.set_cons_succ, List.length_cons, List.length_nil, List.cons_append, List.nil_append, if_true, if_false, Bool.false_eq_true, Bool.true_eq_false, reduceIte, Bool.not_true, Bool.not_false, Bool.and_true, Bool.true_and, Bool.and_false, Bool.false_and, Bool.or_true, Bool.true_or, Bool.or_false, Bool.false_or, decide_eq_true_eq, Nat.reduceAdd, Nat.reduceLeDiff, Nat.zero_add, Int.reduceLT, Int.reduceLE, Int.reduceEq, Int.reduceNeg, Nat.reduceEqDiff, and_self, and_true, true_and, decide_true, decide_false, eq_self, ite_true, ite_false, Int.reduceSub, Int.reduceAdd, Int.cast_ofNat_Int, Int.natCast_add, Int.cast_ofNat_Int, Nat.reduceSub, Nat.add_assoc, String.reduceBEq, String.reduceEq, Bool.or_not_self, beq_self_eq_true]
    refine okR_use (number_wp hh.1 hh.2) fun a s h => ?_
    obtain ⟨rfl, k2, rfl⟩ := h
    have en : numF (.str (nS i)) = .int i := by
      show (match PySem.intText? (nS i) with
        | some n => A.int n
        | none => .non) = _
      rw [(num_at hh.1 hh.2).2]
    exact ⟨en.symm, k2, List.append_assoc _ _ _⟩
  · have em : List.map numF ((is.map nS).map A.str) = is.map A.int := by
      rw [List.map_map, List.map_map]
      refine List.map_congr_left fun i h1 => ?_
      have hh := hi i h1
      show (match PySem.intText? (nS i) with
        | some n => A.int n
        | none => .non) = _
      rw [(num_at hh.1 hh.2).2]
    rw [em]
    have at0 := at0_is (A.str n) ((is.map nS).map A.str)
    have sz : (is.map A.int).length + 1 ≤ 16777216 := by rw [List.length_map]; omega
    have sz : (is.map A.int).length ≤ 16777215 := by rw [List.length_map]; omega
    simp only [wp_okR, wp_okF, wp_fin, wp_next, wp_then, wp_bind, wp_nox, wp_tK, wp_bK, wp_fr, wp_fn, wp_nn, wp_nr, wp_nb, wp_nc, wp_ln, wp_lc, wp_lb, wp_lr, wp_jn, wp_jc, ev_bok, ev_bno, ev_bex, ev_tok, ev_tno, ev_tex, ev_nnx, ev_nrt, ev_nbk, ev_nct, ev_nex, ev_nno, ev_frt, ev_fnx, ev_fex, ev_xok, ev_lsome, ev_lnone, ev_seq, ev_if, ev_ret, ev_retN, ev_drop, ev_nop, ev_brk, ev_cont, ev_asgN, ev_asgT, ev_asgO, ev_mgTup, ev_mgN, ev_mgC, ev_mg0, ev_putL, ev_putO, ev_var, ev_vr, ev_c, ev_op, ev_un, ev_test, ev_tb, ev_notT, ev_andT, ev_orT, ev_ifE, ev_not, ev_nb, ev_and, ev_andK, ev_or, ev_orK, ev_chain, ev_chK, ev_nil, ev_cons, ev_tup, ev_lst, ev_new, ev_call, ev_cb, ev_size, ev_addI, ev_addS, ev_addT, ev_addL, ev_catO, ev_sub, ev_mul, ev_div, ev_mod, ev_p5, ev_p6, ev_p12, ev_p18, ev_p30, ev_neg, ev_ltI, ev_ltS, ev_leI, ev_leS, ev_gt, ev_ge, ev_eqI, ev_eqS, ev_neI, ev_neS, ev_neB, ev_eqB, ev_is, ev_isnot, ev_ixT, ev_ixS, ev_ixR, ev_ixL, ev_ixK, ev_getL, ev_getM, ev_gL, ev_gM, ev_at0, ev_at1, ev_at2, ev_at3, ev_at4, ev_lenS, ev_lenR, ev_lenT, ev_lenL, ev_lenO, ev_lenD, ev_abs, ev_min2, ev_max2, ev_intI, ev_intB, ev_set, ev_fc, ev_setset, ev_last, ev_appk, ev_app0, ev_setk, ev_set0, ev_assoc, ev_lapp, ev_lappA, ev_sl, ev_nopart, ev_part, ev_ptK, ev_slT, ev_slS, ev_slR, ev_slK, ev_tyN, ev_tyB, ev_tyI, ev_tyS, ev_tyT, ev_tyL, ev_tyR, ev_tyRL, ev_isi, ev_isi1, ev_isi2, ev_isi3, ev_isi4, ev_isi5, ev_isiT, ev_isi2K, ev_isTy, ev_list, ev_listK, ev_tuple, ev_tupK, ev_getST, ev_getSR, ev_getSL, ev_all, ev_allK, ev_eqXI, ev_eqXS, ev_neXI, ev_neXS, ev_neXB, ev_eqXB, ev_eqXR, ev_neXR, ev_nil2, ev_eqK, ev_neK, ev_meth, ev_meth0, ev_mth1, ev_mth2, ev_mth3, ev_append, ev_m0, ev_m0K, ev_str, ev_for, ev_miR1, ev_rg1K, ev_miL, ev_liK, ev_miT, ev_tiK, ev_lc, ev_wipe0, ev_wipeS, ev_yes, ev_lenSet, ev_lenSetK, ev_listR, ev_lrK, ev_put2, ev_p2A, ev_p2K, ev_p2E, ev_put1, ev_pt1, ev_addXI, ev_addXB, ev_addXS, ev_addXT, ev_addXL, ev_subXI, ev_subXB, ev_mulXI, ev_mulXB, ev_mulXL, ev_negXI, ev_negXB, ev_strXI, ev_strXB, ev_mulYI, ev_mulYB, ev_mulYL, ev_mulYT, ev_dnew, ev_dnewT, ev_dgetE, ev_getD, ev_gD, ev_keyI, ev_keyS, ev_dgK, ev_dinE, ev_diK, ev_dputE, ev_dpK, ev_dget2E, ev_isDA, ev_isSome, ev_isNone, ev_dg2K, ev_dpop2E, ev_dp2K, ev_dp3S, ev_dp3N, ev_sortedE, ev_srO1, ev_srO2, ev_gLd, ev_srKS, ev_srKI, ev_gDT, ev_gT, ev_tinE, ev_tiKK, ev_keysA, ev_keysN, ev_keysC, ev_dputTE, ev_dptK, ev_dispE, ev_mpN, ev_mpC, ev_pcK, ev_dsK, ev_dsK2, ev_lc2E, ev_imp, ev_simp, ev_split, ev_splF, ev_splG, ev_fmt, ev_fmtS, ev_fmtI, ev_addK, ev_js0, ev_js1, ev_joined, ev_star, ev_starK, ev_each2, ev_each2K, ev_unl, ev_unlK, ev_intS, ev_strYS, ev_strYI, ev_mjoin, ev_joinG, ev_joinK, ev_sbind, ev_miS, ev_siK, List.getElem?_cons_zero, List.getElem?_cons_succ, List.set_cons_zero, List.set_cons_succ, List.length_cons, List.length_nil, List.cons_append, List.nil_append, if_true, if_false, Bool.false_eq_true, Bool.true_eq_false, reduceIte, Bool.not_true, Bool.not_false, Bool.and_true, Bool.true_and, Bool.and_false, Bool.false_and, Bool.or_true, Bool.true_or, Bool.or_false, Bool.false_or, decide_eq_true_eq, Nat.reduceAdd, Nat.reduceLeDiff, Nat.zero_add, Int.reduceLT, Int.reduceLE, Int.reduceEq, Int.reduceNeg, Nat.reduceEqDiff, and_self, and_true, true_and, decide_true, decide_false, eq_self, ite_true, ite_false, Int.reduceSub, Int.reduceAdd, Int.cast_ofNat_Int, Int.natCast_add, Int.cast_ofNat_Int, Nat.reduceSub, Nat.add_assoc, String.reduceBEq, String.reduceEq, Bool.or_not_self, beq_self_eq_true, g0, at0, sz, List.append_nil]
    exact ⟨rfl, _, by rw [hS1, List.append_assoc]⟩
theorem J_mem {c d : Nat} : ∀ {us : List (List Nat)}, c ∈ J d us → c = d ∨ ∃ u ∈ us, c ∈ u
  | [], h => by cases h
  | [x], h => .inr ⟨x, List.mem_cons_self, h⟩
  | x :: y :: r, h => by
    have h : c ∈ x ++ d :: J d (y :: r) := h
    rcases List.mem_append.mp h with h | h
    · exact .inr ⟨x, List.mem_cons_self, h⟩
    · rcases List.mem_cons.mp h with h | h
      · exact .inl h
      · rcases J_mem h with h | ⟨u, h1, h2⟩
        · exact .inl h
        · exact .inr ⟨u, List.mem_cons_of_mem _ h1, h2⟩
theorem join_free {c d : Nat} {ws : List Str} (hcd : c ≠ d) (h : ∀ x ∈ ws, c ∉ x.cps.toList) : c ∉ (Txt.join ⟨#[d]⟩ ws).cps.toList := fun hm => by
  rw [join_is, J_cps] at hm
  rcases J_mem hm with hm | ⟨u, h1, h2⟩
  · exact hcd hm
  · obtain ⟨x, hx, rfl⟩ := List.mem_map.mp h1
    exact h x hx h2
theorem row_free {n : Str} {is : List Int} (hn : nameP n) (hi : ∀ i ∈ is, numI i) {c : Nat} (h1 : c ≠ 58) (h2 : ¬ (48 ≤ c ∧ c ≤ 57)) (h3 : c < 97) : c ∉ (rowT (rowG n is)).cps.toList := by
  unfold rowT
  rw [lit_colon, rowG_words]
  refine join_free h1 fun x hx => ?_
  rcases List.mem_cons.mp hx with rfl | hx
  · exact name_free hn h3
  · obtain ⟨i, h1, rfl⟩ := List.mem_map.mp hx
    exact num_free (hi i h1) h2
abbrev Qs := List (Str × List Int)
def rowQ (q : Str × List Int) : List A := rowG q.1 q.2
structure QsG (qs : Qs) : Prop where
  ne : qs ≠ []
  le : qs.length ≤ 4
  nm : ∀ q ∈ qs, nameP q.1
  nu : ∀ q ∈ qs, ∀ i ∈ q.2, numI i
  l2 : ∀ q ∈ qs, q.2.length ≤ 2
theorem rows_split {qs : Qs} (h : QsG qs) : Txt.split (rowsT (qs.map rowQ)) (Str.ofString ",") = (qs.map rowQ).map rowT := by
  unfold rowsT
  rw [lit_comma]
  refine split_join (fun e => h.ne (List.map_eq_nil_iff.mp (List.map_eq_nil_iff.mp e))) fun x hx => ?_
  obtain ⟨r, hr, rfl⟩ := List.mem_map.mp hx
  obtain ⟨q, hq, rfl⟩ := List.mem_map.mp hr
  exact row_free (h.nm q hq) (h.nu q hq) (by decide) (by decide) (by decide)
theorem rows_free {qs : Qs} (h : QsG qs) : 32 ∉ (rowsT (qs.map rowQ)).cps.toList := by
  unfold rowsT
  rw [lit_comma]
  refine join_free (by decide) fun x hx => ?_
  obtain ⟨r, hr, rfl⟩ := List.mem_map.mp hx
  obtain ⟨q, hq, rfl⟩ := List.mem_map.mp hr
  exact row_free (h.nm q hq) (h.nu q hq) (by decide) (by decide) (by decide)
theorem rows_ok {qs : Qs} (h : QsG qs) : ∀ r ∈ qs.map rowQ, r.length ≤ 3 ∧ ∀ a ∈ r, okItem a := fun r hr => by
  obtain ⟨q, hq, rfl⟩ := List.mem_map.mp hr
  refine ⟨?_, rowG_ok (h.nm q hq) (h.nu q hq)⟩
  have := h.l2 q hq
  unfold rowQ rowG
  rw [List.length_cons, List.length_map]
  omega

theorem rows_wp {S : Sto} {qs : Qs} (h : QsG qs) : okR (m_rows_of [.str (rowsT (qs.map rowQ))] S) fun y t => y = .tup ((qs.map rowQ).map A.tup) ∧ ∃ l, t = S ++ l := by
  have hle := h.le
  have L := rowsT_len (rows_ok h) (by rw [List.length_map]; exact h.le)
  have e := rows_split h
  have u1 : (rowsT (qs.map rowQ)).length + 2 ≤ 16777216 := by omega
  have u2 : ((Str.ofString ",").length == 0) = false := by decide +kernel
  rw [st_rows_of]
  unfold b_rows_of
  simp only [wp_okR, wp_okF, wp_fin, wp_next, wp_then, wp_bind, wp_nox, wp_tK, wp_bK, wp_fr, wp_fn, wp_nn, wp_nr, wp_nb, wp_nc, wp_ln, wp_lc, wp_lb, wp_lr, wp_jn, wp_jc, ev_bok, ev_bno, ev_bex, ev_tok, ev_tno, ev_tex, ev_nnx, ev_nrt, ev_nbk, ev_nct, ev_nex, ev_nno, ev_frt, ev_fnx, ev_fex, ev_xok, ev_lsome, ev_lnone, ev_seq, ev_if, ev_ret, ev_retN, ev_drop, ev_nop, ev_brk, ev_cont, ev_asgN, ev_asgT, ev_asgO, ev_mgTup, ev_mgN, ev_mgC, ev_mg0, ev_putL, ev_putO, ev_var, ev_vr, ev_c, ev_op, ev_un, ev_test, ev_tb, ev_notT, ev_andT, ev_orT, ev_ifE, ev_not, ev_nb, ev_and, ev_andK, ev_or, ev_orK, ev_chain, ev_chK, ev_nil, ev_cons, ev_tup, ev_lst, ev_new, ev_call, ev_cb, ev_size, ev_addI, ev_addS, ev_addT, ev_addL, ev_catO, ev_sub, ev_mul, ev_div, ev_mod, ev_p5, ev_p6, ev_p12, ev_p18, ev_p30, ev_neg, ev_ltI, ev_ltS, ev_leI, ev_leS, ev_gt, ev_ge, ev_eqI, ev_eqS, ev_neI, ev_neS, ev_neB, ev_eqB, ev_is, ev_isnot, ev_ixT, ev_ixS, ev_ixR, ev_ixL, ev_ixK, ev_getL, ev_getM, ev_gL, ev_gM, ev_at0, ev_at1, ev_at2, ev_at3, ev_at4, ev_lenS, ev_lenR, ev_lenT, ev_lenL, ev_lenO, ev_lenD, ev_abs, ev_min2, ev_max2, ev_intI, ev_intB, ev_set, ev_fc, ev_setset, ev_last, ev_appk, ev_app0, ev_setk, ev_set0, ev_assoc, ev_lapp, ev_lappA, ev_sl, ev_nopart, ev_part, ev_ptK, ev_slT, ev_slS, ev_slR, ev_slK, ev_tyN, ev_tyB, ev_tyI, ev_tyS, ev_tyT, ev_tyL, ev_tyR, ev_tyRL, ev_isi, ev_isi1, ev_isi2, ev_isi3, ev_isi4, ev_isi5, ev_isiT, ev_isi2K, ev_isTy, ev_list, ev_listK, ev_tuple, ev_tupK, ev_getST, ev_getSR, ev_getSL, ev_all, ev_allK, ev_eqXI, ev_eqXS, ev_neXI, ev_neXS, ev_neXB, ev_eqXB, ev_eqXR, ev_neXR, ev_nil2, ev_eqK, ev_neK, ev_meth, ev_meth0, ev_mth1, ev_mth2, ev_mth3, ev_append, ev_m0, ev_m0K, ev_str, ev_for, ev_miR1, ev_rg1K, ev_miL, ev_liK, ev_miT, ev_tiK, ev_lc, ev_wipe0, ev_wipeS, ev_yes, ev_lenSet, ev_lenSetK, ev_listR, ev_lrK, ev_put2, ev_p2A, ev_p2K, ev_p2E, ev_put1, ev_pt1, ev_addXI, ev_addXB, ev_addXS, ev_addXT, ev_addXL, ev_subXI, ev_subXB, ev_mulXI, ev_mulXB, ev_mulXL, ev_negXI, ev_negXB, ev_strXI, ev_strXB, ev_mulYI, ev_mulYB, ev_mulYL, ev_mulYT, ev_dnew, ev_dnewT, ev_dgetE, ev_getD, ev_gD, ev_keyI, ev_keyS, ev_dgK, ev_dinE, ev_diK, ev_dputE, ev_dpK, ev_dget2E, ev_isDA, ev_isSome, ev_isNone, ev_dg2K, ev_dpop2E, ev_dp2K, ev_dp3S, ev_dp3N, ev_sortedE, ev_srO1, ev_srO2, ev_gLd, ev_srKS, ev_srKI, ev_gDT, ev_gT, ev_tinE, ev_tiKK, ev_keysA, ev_keysN, ev_keysC, ev_dputTE, ev_dptK, ev_dispE, ev_mpN, ev_mpC, ev_pcK, ev_dsK, ev_dsK2, ev_lc2E, ev_imp, ev_simp, ev_split, ev_splF, ev_splG, ev_fmt, ev_fmtS, ev_fmtI, ev_addK, ev_js0, ev_js1, ev_joined, ev_star, ev_starK, ev_each2, ev_each2K, ev_unl, ev_unlK, ev_intS, ev_strYS, ev_strYI, ev_mjoin, ev_joinG, ev_joinK, ev_sbind, ev_miS, ev_siK, List.getElem?_cons_zero, List.getElem?_cons_succ, List.set_cons_zero, List.set_cons_succ, List.length_cons, List.length_nil, List.cons_append, List.nil_append, if_true, if_false, Bool.false_eq_true, Bool.true_eq_false, reduceIte, Bool.not_true, Bool.not_false, Bool.and_true, Bool.true_and, Bool.and_false, Bool.false_and, Bool.or_true, Bool.true_or, Bool.or_false, Bool.false_or, decide_eq_true_eq, Nat.reduceAdd, Nat.reduceLeDiff, Nat.zero_add, Int.reduceLT, Int.reduceLE, Int.reduceEq, Int.reduceNeg, Nat.reduceEqDiff, and_self, and_true, true_and, decide_true, decide_false, eq_self, ite_true, ite_false, Int.reduceSub, Int.reduceAdd, Int.cast_ofNat_Int, Int.natCast_add, Int.cast_ofNat_Int, Nat.reduceSub, Nat.add_assoc, String.reduceBEq, String.reduceEq, Bool.or_not_self, beq_self_eq_true, u1, u2, e]
  obtain ⟨S1, hS1⟩ : ∃ S1, S1 = S ++ [AO.lst (((qs.map rowQ).map rowT).map A.str)] := ⟨_, rfl⟩
  have z1 : S.length + 1 = S1.length := by rw [hS1, List.length_append]; rfl
  have es : S ++ [AO.lst (((qs.map rowQ).map rowT).map A.str), AO.lst []] = S1 ++ [AO.lst []] := by
    rw [hS1, List.append_assoc]
    rfl
  have g0 : ∀ k, (S1 ++ k)[S.length]? = some (AO.lst (((qs.map rowQ).map rowT).map A.str)) := fun k => by
    rw [hS1, List.append_assoc, List.getElem?_append_right (by omega), Nat.sub_self]
    rfl
  rw [es, z1]
  refine lcL_wp (j := 0) (acc := []) (fun i acc s => acc = ((qs.map rowQ).take i).map A.tup ∧ ∃ l', s = S1 ++ AO.lst acc :: l') (fun i acc s hI => ?_) ⟨rfl, [], rfl⟩ (fun i x acc s hx hI => ?_) (fun acc s hI => ?_)
  · obtain ⟨_, l', rfl⟩ := hI
    show getL (S1 ++ _) (.ref S.length) = _
    rw [ev_getL, g0]
    rfl
  · obtain ⟨q, eq, rfl⟩ : ∃ q, qs[i]? = some q ∧ x = .str (rowT (rowQ q)) := by
      rw [List.getElem?_map, List.getElem?_map, List.getElem?_map] at hx
      cases hq : qs[i]? with
      | none => rw [hq] at hx; cases hx
      | some q => rw [hq] at hx; cases hx; exact ⟨q, rfl, rfl⟩
    have mq := List.mem_of_getElem? eq
    obtain ⟨ha, l', rfl⟩ := hI
    refine ⟨_, rfl, ?_⟩
    have tk : (qs.map rowQ).take (0 + i + 1) = (qs.map rowQ).take (0 + i) ++ [rowQ q] := by
      rw [List.take_add_one, Nat.zero_add, List.getElem?_map, eq]
      rfl
    have la : acc.length < 16777216 := by
      rw [ha, List.length_map, List.length_take, List.length_map]
      omega
    simp only [wp_okR, wp_okF, wp_fin, wp_next, wp_then, wp_bind, wp_nox, wp_tK, wp_bK, wp_fr, wp_fn, wp_nn, wp_nr, wp_nb, wp_nc, wp_ln, wp_lc, wp_lb, wp_lr, wp_jn, wp_jc, ev_bok, ev_bno, ev_bex, ev_tok, ev_tno, ev_tex, ev_nnx, ev_nrt, ev_nbk, ev_nct, ev_nex, ev_nno, ev_frt, ev_fnx, ev_fex, ev_xok, ev_lsome, ev_lnone, ev_seq, ev_if, ev_ret, ev_retN, ev_drop, ev_nop, ev_brk, ev_cont, ev_asgN, ev_asgT, ev_asgO, ev_mgTup, ev_mgN, ev_mgC, ev_mg0, ev_putL, ev_putO, ev_var, ev_vr, ev_c, ev_op, ev_un, ev_test, ev_tb, ev_notT, ev_andT, ev_orT, ev_ifE, ev_not, ev_nb, ev_and, ev_andK, ev_or, ev_orK, ev_chain, ev_chK, ev_nil, ev_cons, ev_tup, ev_lst, ev_new, ev_call, ev_cb, ev_size, ev_addI, ev_addS, ev_addT, ev_addL, ev_catO, ev_sub, ev_mul, ev_div, ev_mod, ev_p5, ev_p6, ev_p12, ev_p18, ev_p30, ev_neg, ev_ltI, ev_ltS, ev_leI, ev_leS, ev_gt, ev_ge, ev_eqI, ev_eqS, ev_neI, ev_neS, ev_neB, ev_eqB, ev_is, ev_isnot, ev_ixT, ev_ixS, ev_ixR, ev_ixL, ev_ixK, ev_getL, ev_getM, ev_gL, ev_gM, ev_at0, ev_at1, ev_at2, ev_at3, ev_at4, ev_lenS, ev_lenR, ev_lenT, ev_lenL, ev_lenO, ev_lenD, ev_abs, ev_min2, ev_max2, ev_intI, ev_intB, ev_set, ev_fc, ev_setset, ev_last, ev_appk, ev_app0, ev_setk, ev_set0, ev_assoc, ev_lapp, ev_lappA, ev_sl, ev_nopart, ev_part, ev_ptK, ev_slT, ev_slS, ev_slR, ev_slK, ev_tyN, ev_tyB, ev_tyI, ev_tyS, ev_tyT, ev_tyL, ev_tyR, ev_tyRL, ev_isi, ev_isi1, ev_isi2, ev_isi3, ev_isi4, ev_isi5, ev_isiT, ev_isi2K, ev_isTy, ev_list, ev_listK, ev_tuple, ev_tupK, ev_getST, ev_getSR, ev_getSL, ev_all, ev_allK, ev_eqXI, ev_eqXS, ev_neXI, ev_neXS, ev_neXB, ev_eqXB, ev_eqXR, ev_neXR, ev_nil2, ev_eqK, ev_neK, ev_meth, ev_meth0, ev_mth1, ev_mth2, ev_mth3, ev_append, ev_m0, ev_m0K, ev_str, ev_for, ev_miR1, ev_rg1K, ev_miL, ev_liK, ev_miT, ev_tiK, ev_lc, ev_wipe0, ev_wipeS, ev_yes, ev_lenSet, ev_lenSetK, ev_listR, ev_lrK, ev_put2, ev_p2A, ev_p2K, ev_p2E, ev_put1, ev_pt1, ev_addXI, ev_addXB, ev_addXS, ev_addXT, ev_addXL, ev_subXI, ev_subXB, ev_mulXI, ev_mulXB, ev_mulXL, ev_negXI, ev_negXB, ev_strXI, ev_strXB, ev_mulYI, ev_mulYB, ev_mulYL, ev_mulYT, ev_dnew, ev_dnewT, ev_dgetE, ev_getD, ev_gD, ev_keyI, ev_keyS, ev_dgK, ev_dinE, ev_diK, ev_dputE, ev_dpK, ev_dget2E, ev_isDA, ev_isSome, ev_isNone, ev_dg2K, ev_dpop2E, ev_dp2K, ev_dp3S, ev_dp3N, ev_sortedE, ev_srO1, ev_srO2, ev_gLd, ev_srKS, ev_srKI, ev_gDT, ev_gT, ev_tinE, ev_tiKK, ev_keysA, ev_keysN, ev_keysC, ev_dputTE, ev_dptK, ev_dispE, ev_mpN, ev_mpC, ev_pcK, ev_dsK, ev_dsK2, ev_lc2E, ev_imp, ev_simp, ev_split, ev_splF, ev_splG, ev_fmt, ev_fmtS, ev_fmtI, ev_addK, ev_js0, ev_js1, ev_joined, ev_star, ev_starK, ev_each2, ev_each2K, ev_unl, ev_unlK, ev_intS, ev_strYS, ev_strYI, ev_mjoin, ev_joinG, ev_joinK, ev_sbind, ev_miS, ev_siK, List.getElem?_cons_zero, List.getElem?_cons_succ, List.set_cons_zero, List.set_cons_succ, List.length_cons, List.length_nil, List.cons_append, List.nil_append, if_true, if_false, Bool.false_eq_true, Bool.true_eq_false, reduceIte, Bool.not_true, Bool.not_false, Bool.and_true, Bool.true_and, Bool.and_false, Bool.false_and, Bool.or_true, Bool.true_or, Bool.or_false, Bool.false_or, decide_eq_true_eq, Nat.reduceAdd, Nat.reduceLeDiff, Nat.zero_add, Int.reduceLT, Int.reduceLE, Int.reduceEq, Int.reduceNeg, Nat.reduceEqDiff, and_self, and_true, true_and, decide_true, decide_false, eq_self, ite_true, ite_false, Int.reduceSub, Int.reduceAdd, Int.cast_ofNat_Int, Int.natCast_add, Int.cast_ofNat_Int, Nat.reduceSub, Nat.add_assoc, String.reduceBEq, String.reduceEq, Bool.or_not_self, beq_self_eq_true]
    refine okR_use (row_wp (h.nm q mq) (h.nu q mq) (h.l2 q mq)) fun a s hh => ?_
    obtain ⟨rfl, k2, rfl⟩ := hh
    simp only [wp_okR, wp_okF, wp_fin, wp_next, wp_then, wp_bind, wp_nox, wp_tK, wp_bK, wp_fr, wp_fn, wp_nn, wp_nr, wp_nb, wp_nc, wp_ln, wp_lc, wp_lb, wp_lr, wp_jn, wp_jc, ev_bok, ev_bno, ev_bex, ev_tok, ev_tno, ev_tex, ev_nnx, ev_nrt, ev_nbk, ev_nct, ev_nex, ev_nno, ev_frt, ev_fnx, ev_fex, ev_xok, ev_lsome, ev_lnone, ev_seq, ev_if, ev_ret, ev_retN, ev_drop, ev_nop, ev_brk, ev_cont, ev_asgN, ev_asgT, ev_asgO, ev_mgTup, ev_mgN, ev_mgC, ev_mg0, ev_putL, ev_putO, ev_var, ev_vr, ev_c, ev_op, ev_un, ev_test, ev_tb, ev_notT, ev_andT, ev_orT, ev_ifE, ev_not, ev_nb, ev_and, ev_andK, ev_or, ev_orK, ev_chain, ev_chK, ev_nil, ev_cons, ev_tup, ev_lst, ev_new, ev_call, ev_cb, ev_size, ev_addI, ev_addS, ev_addT, ev_addL, ev_catO, ev_sub, ev_mul, ev_div, ev_mod, ev_p5, ev_p6, ev_p12, ev_p18, ev_p30, ev_neg, ev_ltI, ev_ltS, ev_leI, ev_leS, ev_gt, ev_ge, ev_eqI, ev_eqS, ev_neI, ev_neS, ev_neB, ev_eqB, ev_is, ev_isnot, ev_ixT, ev_ixS, ev_ixR, ev_ixL, ev_ixK, ev_getL, ev_getM, ev_gL, ev_gM, ev_at0, ev_at1, ev_at2, ev_at3, ev_at4, ev_lenS, ev_lenR, ev_lenT, ev_lenL, ev_lenO, ev_lenD, ev_abs, ev_min2, ev_max2, ev_intI, ev_intB, ev_set, ev_fc, ev_setset, ev_last, ev_appk, ev_app0, ev_setk, ev_set0, ev_assoc, ev_lapp, ev_lappA, ev_sl, ev_nopart, ev_part, ev_ptK, ev_slT, ev_slS, ev_slR, ev_slK, ev_tyN, ev_tyB, ev_tyI, ev_tyS, ev_tyT, ev_tyL, ev_tyR, ev_tyRL, ev_isi, ev_isi1, ev_isi2, ev_isi3, ev_isi4, ev_isi5, ev_isiT, ev_isi2K, ev_isTy, ev_list, ev_listK, ev_tuple, ev_tupK, ev_getST, ev_getSR, ev_getSL, ev_all, ev_allK, ev_eqXI, ev_eqXS, ev_neXI, ev_neXS, ev_neXB, ev_eqXB, ev_eqXR, ev_neXR, ev_nil2, ev_eqK, ev_neK, ev_meth, ev_meth0, ev_mth1, ev_mth2, ev_mth3, ev_append, ev_m0, ev_m0K, ev_str, ev_for, ev_miR1, ev_rg1K, ev_miL, ev_liK, ev_miT, ev_tiK, ev_lc, ev_wipe0, ev_wipeS, ev_yes, ev_lenSet, ev_lenSetK, ev_listR, ev_lrK, ev_put2, ev_p2A, ev_p2K, ev_p2E, ev_put1, ev_pt1, ev_addXI, ev_addXB, ev_addXS, ev_addXT, ev_addXL, ev_subXI, ev_subXB, ev_mulXI, ev_mulXB, ev_mulXL, ev_negXI, ev_negXB, ev_strXI, ev_strXB, ev_mulYI, ev_mulYB, ev_mulYL, ev_mulYT, ev_dnew, ev_dnewT, ev_dgetE, ev_getD, ev_gD, ev_keyI, ev_keyS, ev_dgK, ev_dinE, ev_diK, ev_dputE, ev_dpK, ev_dget2E, ev_isDA, ev_isSome, ev_isNone, ev_dg2K, ev_dpop2E, ev_dp2K, ev_dp3S, ev_dp3N, ev_sortedE, ev_srO1, ev_srO2, ev_gLd, ev_srKS, ev_srKI, ev_gDT, ev_gT, ev_tinE, ev_tiKK, ev_keysA, ev_keysN, ev_keysC, ev_dputTE, ev_dptK, ev_dispE, ev_mpN, ev_mpC, ev_pcK, ev_dsK, ev_dsK2, ev_lc2E, ev_imp, ev_simp, ev_split, ev_splF, ev_splG, ev_fmt, ev_fmtS, ev_fmtI, ev_addK, ev_js0, ev_js1, ev_joined, ev_star, ev_starK, ev_each2, ev_each2K, ev_unl, ev_unlK, ev_intS, ev_strYS, ev_strYI, ev_mjoin, ev_joinG, ev_joinK, ev_sbind, ev_miS, ev_siK, List.getElem?_cons_zero, List.getElem?_cons_succ, List.set_cons_zero, List.set_cons_succ, List.length_cons, List.length_nil, List.cons_append, List.nil_append, if_true, if_false, Bool.false_eq_true, Bool.true_eq_false, reduceIte, Bool.not_true, Bool.not_false, Bool.and_true, Bool.true_and, Bool.and_false, Bool.false_and, Bool.or_true, Bool.true_or, Bool.or_false, Bool.false_or, decide_eq_true_eq, Nat.reduceAdd, Nat.reduceLeDiff, Nat.zero_add, Int.reduceLT, Int.reduceLE, Int.reduceEq, Int.reduceNeg, Nat.reduceEqDiff, and_self, and_true, true_and, decide_true, decide_false, eq_self, ite_true, ite_false, Int.reduceSub, Int.reduceAdd, Int.cast_ofNat_Int, Int.natCast_add, Int.cast_ofNat_Int, Nat.reduceSub, Nat.add_assoc, String.reduceBEq, String.reduceEq, Bool.or_not_self, beq_self_eq_true]
    refine ⟨la, ?_, ?_⟩
    · rw [show i + 1 = 0 + i + 1 by omega, tk, List.map_append, ha]
      rfl
    · exact ⟨_, rfl⟩
  · obtain ⟨rfl, l', rfl⟩ := hI
    have tk : List.take (0 + (List.map A.str (List.map rowT (List.map rowQ qs))).length) (List.map rowQ qs) = qs.map rowQ := by
      rw [Nat.zero_add, List.length_map, List.length_map, List.take_length]
    rw [tk]
    simp only [wp_okR, wp_okF, wp_fin, wp_next, wp_then, wp_bind, wp_nox, wp_tK, wp_bK, wp_fr, wp_fn, wp_nn, wp_nr, wp_nb, wp_nc, wp_ln, wp_lc, wp_lb, wp_lr, wp_jn, wp_jc, ev_bok, ev_bno, ev_bex, ev_tok, ev_tno, ev_tex, ev_nnx, ev_nrt, ev_nbk, ev_nct, ev_nex, ev_nno, ev_frt, ev_fnx, ev_fex, ev_xok, ev_lsome, ev_lnone, ev_seq, ev_if, ev_ret, ev_retN, ev_drop, ev_nop, ev_brk, ev_cont, ev_asgN, ev_asgT, ev_asgO, ev_mgTup, ev_mgN, ev_mgC, ev_mg0, ev_putL, ev_putO, ev_var, ev_vr, ev_c, ev_op, ev_un, ev_test, ev_tb, ev_notT, ev_andT, ev_orT, ev_ifE, ev_not, ev_nb, ev_and, ev_andK, ev_or, ev_orK, ev_chain, ev_chK, ev_nil, ev_cons, ev_tup, ev_lst, ev_new, ev_call, ev_cb, ev_size, ev_addI, ev_addS, ev_addT, ev_addL, ev_catO, ev_sub, ev_mul, ev_div, ev_mod, ev_p5, ev_p6, ev_p12, ev_p18, ev_p30, ev_neg, ev_ltI, ev_ltS, ev_leI, ev_leS, ev_gt, ev_ge, ev_eqI, ev_eqS, ev_neI, ev_neS, ev_neB, ev_eqB, ev_is, ev_isnot, ev_ixT, ev_ixS, ev_ixR, ev_ixL, ev_ixK, ev_getL, ev_getM, ev_gL, ev_gM, ev_at0, ev_at1, ev_at2, ev_at3, ev_at4, ev_lenS, ev_lenR, ev_lenT, ev_lenL, ev_lenO, ev_lenD, ev_abs, ev_min2, ev_max2, ev_intI, ev_intB, ev_set, ev_fc, ev_setset, ev_last, ev_appk, ev_app0, ev_setk, ev_set0, ev_assoc, ev_lapp, ev_lappA, ev_sl, ev_nopart, ev_part, ev_ptK, ev_slT, ev_slS, ev_slR, ev_slK, ev_tyN, ev_tyB, ev_tyI, ev_tyS, ev_tyT, ev_tyL, ev_tyR, ev_tyRL, ev_isi, ev_isi1, ev_isi2, ev_isi3, ev_isi4, ev_isi5, ev_isiT, ev_isi2K, ev_isTy, ev_list, ev_listK, ev_tuple, ev_tupK, ev_getST, ev_getSR, ev_getSL, ev_all, ev_allK, ev_eqXI, ev_eqXS, ev_neXI, ev_neXS, ev_neXB, ev_eqXB, ev_eqXR, ev_neXR, ev_nil2, ev_eqK, ev_neK, ev_meth, ev_meth0, ev_mth1, ev_mth2, ev_mth3, ev_append, ev_m0, ev_m0K, ev_str, ev_for, ev_miR1, ev_rg1K, ev_miL, ev_liK, ev_miT, ev_tiK, ev_lc, ev_wipe0, ev_wipeS, ev_yes, ev_lenSet, ev_lenSetK, ev_listR, ev_lrK, ev_put2, ev_p2A, ev_p2K, ev_p2E, ev_put1, ev_pt1, ev_addXI, ev_addXB, ev_addXS, ev_addXT, ev_addXL, ev_subXI, ev_subXB, ev_mulXI, ev_mulXB, ev_mulXL, ev_negXI, ev_negXB, ev_strXI, ev_strXB, ev_mulYI, ev_mulYB, ev_mulYL, ev_mulYT, ev_dnew, ev_dnewT, ev_dgetE, ev_getD, ev_gD, ev_keyI, ev_keyS, ev_dgK, ev_dinE, ev_diK, ev_dputE, ev_dpK, ev_dget2E, ev_isDA, ev_isSome, ev_isNone, ev_dg2K, ev_dpop2E, ev_dp2K, ev_dp3S, ev_dp3N, ev_sortedE, ev_srO1, ev_srO2, ev_gLd, ev_srKS, ev_srKI, ev_gDT, ev_gT, ev_tinE, ev_tiKK, ev_keysA, ev_keysN, ev_keysC, ev_dputTE, ev_dptK, ev_dispE, ev_mpN, ev_mpC, ev_pcK, ev_dsK, ev_dsK2, ev_lc2E, ev_imp, ev_simp, ev_split, ev_splF, ev_splG, ev_fmt, ev_fmtS, ev_fmtI, ev_addK, ev_js0, ev_js1, ev_joined, ev_star, ev_starK, ev_each2, ev_each2K, ev_unl, ev_unlK, ev_intS, ev_strYS, ev_strYI, ev_mjoin, ev_joinG, ev_joinK, ev_sbind, ev_miS, ev_siK, List.getElem?_cons_zero, List.getElem?_cons_succ, List.set_cons_zero, List.set_cons_succ, List.length_cons, List.length_nil, List.cons_append, List.nil_append, if_true, if_false, Bool.false_eq_true, Bool.true_eq_false, reduceIte, Bool.not_true, Bool.not_false, Bool.and_true, Bool.true_and, Bool.and_false, Bool.false_and, Bool.or_true, Bool.true_or, Bool.or_false, Bool.false_or, decide_eq_true_eq, Nat.reduceAdd, Nat.reduceLeDiff, Nat.zero_add, Int.reduceLT, Int.reduceLE, Int.reduceEq, Int.reduceNeg, Nat.reduceEqDiff, and_self, and_true, true_and, decide_true, decide_false, eq_self, ite_true, ite_false, Int.reduceSub, Int.reduceAdd, Int.cast_ofNat_Int, Int.natCast_add, Int.cast_ofNat_Int, Nat.reduceSub, Nat.add_assoc, String.reduceBEq, String.reduceEq, Bool.or_not_self, beq_self_eq_true]
    exact ⟨_, by rw [hS1, List.append_assoc]⟩

/-! ### a setup asked: every part of a good setup is good -/
theorem bls_mapA {f : A → Bool} : ∀ xs : List A, bls (xs.map fun x => A.bl (f x)) = some (xs.map f)
  | [] => rfl
  | n :: ns => by simp only [List.map_cons, bls, bls_mapA ns, Option.map_some]
theorem all_id {f : A → Bool} {xs : List A} : (xs.map f).all id = xs.all f := by
  rw [List.all_map]
  rfl
def riseS : List Str → Bool
  | x :: y :: r => decide (x.cps.toList < y.cps.toList) && riseS (y :: r)
  | _ => true
theorem riseS_all : ∀ ss : List Str, ((List.range (ss.length - 1)).all fun k => decide ((ss.getD k "").cps.toList < (ss.getD (k + 1) "").cps.toList)) = riseS ss
  | [] => rfl
  | [_] => rfl
  | x :: y :: r => by
    have ih := riseS_all (y :: r)
    show ((List.range (r.length + 1)).all _) = _
    rw [List.range_succ_eq_map, List.all_cons, List.all_map]
    show (decide (x.cps.toList < y.cps.toList) && _) = (decide (x.cps.toList < y.cps.toList) && riseS (y :: r))
    rw [← ih]
    rfl
def riseF (ss : List Str) : A → Bool
  | .int i => decide ((ss.getD i.toNat "").cps.toList < (ss.getD (i.toNat + 1) "").cps.toList)
  | _ => false
theorem isRising_wp {S : Sto} {n : Nat} {ss : List Str} (hn : S[n]? = some (.lst (ss.map A.str))) (hl : ss.length < 1000) : okR (m_is_rising [.ref n] S) fun y t => y = .bl (riseS ss) ∧ ∃ l, t = S ++ l := by
  have hlt := (List.getElem?_eq_some_iff.mp hn).1
  have hn' : ∀ l, (S ++ l)[n]? = some (.lst (ss.map A.str)) := fun l => by rw [List.getElem?_append_left hlt]; exact hn
  rw [st_is_rising]
  unfold b_is_rising
  have c1 : (-(2 ^ 62) ≤ (((ss.map A.str).length : Nat) : Int) - 1 ∧ (((ss.map A.str).length : Nat) : Int) - 1 < 2 ^ 62) = True := eq_true (by rw [List.length_map]; omega)
  simp only [wp_okR, wp_okF, wp_fin, wp_next, wp_then, wp_bind, wp_nox, wp_tK, wp_bK, wp_fr, wp_fn, wp_nn, wp_nr, wp_nb, wp_nc, wp_ln, wp_lc, wp_lb, wp_lr, wp_jn, wp_jc, ev_bok, ev_bno, ev_bex, ev_tok, ev_tno, ev_tex, ev_nnx, ev_nrt, ev_nbk, ev_nct, ev_nex, ev_nno, ev_frt, ev_fnx, ev_fex, ev_xok, ev_lsome, ev_lnone, ev_seq, ev_if, ev_ret, ev_retN, ev_drop, ev_nop, ev_brk, ev_cont, ev_asgN, ev_asgT, ev_asgO, ev_mgTup, ev_mgN, ev_mgC, ev_mg0, ev_putL, ev_putO, ev_var, ev_vr, ev_c, ev_op, ev_un, ev_test, ev_tb, ev_notT, ev_andT, ev_orT, ev_ifE, ev_not, ev_nb, ev_and, ev_andK, ev_or, ev_orK, ev_chain, ev_chK, ev_nil, ev_cons, ev_tup, ev_lst, ev_new, ev_call, ev_cb, ev_size, ev_addI, ev_addS, ev_addT, ev_addL, ev_catO, ev_sub, ev_mul, ev_div, ev_mod, ev_p5, ev_p6, ev_p12, ev_p18, ev_p30, ev_neg, ev_ltI, ev_ltS, ev_leI, ev_leS, ev_gt, ev_ge, ev_eqI, ev_eqS, ev_neI, ev_neS, ev_neB, ev_eqB, ev_is, ev_isnot, ev_ixT, ev_ixS, ev_ixR, ev_ixL, ev_ixK, ev_getL, ev_getM, ev_gL, ev_gM, ev_at0, ev_at1, ev_at2, ev_at3, ev_at4, ev_lenS, ev_lenR, ev_lenT, ev_lenL, ev_lenO, ev_lenD, ev_abs, ev_min2, ev_max2, ev_intI, ev_intB, ev_set, ev_fc, ev_setset, ev_last, ev_appk, ev_app0, ev_setk, ev_set0, ev_assoc, ev_lapp, ev_lappA, ev_sl, ev_nopart, ev_part, ev_ptK, ev_slT, ev_slS, ev_slR, ev_slK, ev_tyN, ev_tyB, ev_tyI, ev_tyS, ev_tyT, ev_tyL, ev_tyR, ev_tyRL, ev_isi, ev_isi1, ev_isi2, ev_isi3, ev_isi4, ev_isi5, ev_isiT, ev_isi2K, ev_isTy, ev_list, ev_listK, ev_tuple, ev_tupK, ev_getST, ev_getSR, ev_getSL, ev_all, ev_allK, ev_eqXI, ev_eqXS, ev_neXI, ev_neXS, ev_neXB, ev_eqXB, ev_eqXR, ev_neXR, ev_nil2, ev_eqK, ev_neK, ev_meth, ev_meth0, ev_mth1, ev_mth2, ev_mth3, ev_append, ev_m0, ev_m0K, ev_str, ev_for, ev_miR1, ev_rg1K, ev_miL, ev_liK, ev_miT, ev_tiK, ev_lc, ev_wipe0, ev_wipeS, ev_yes, ev_lenSet, ev_lenSetK, ev_listR, ev_lrK, ev_put2, ev_p2A, ev_p2K, ev_p2E, ev_put1, ev_pt1, ev_addXI, ev_addXB, ev_addXS, ev_addXT, ev_addXL, ev_subXI, ev_subXB, ev_mulXI, ev_mulXB, ev_mulXL, ev_negXI, ev_negXB, ev_strXI, ev_strXB, ev_mulYI, ev_mulYB, ev_mulYL, ev_mulYT, ev_dnew, ev_dnewT, ev_dgetE, ev_getD, ev_gD, ev_keyI, ev_keyS, ev_dgK, ev_dinE, ev_diK, ev_dputE, ev_dpK, ev_dget2E, ev_isDA, ev_isSome, ev_isNone, ev_dg2K, ev_dpop2E, ev_dp2K, ev_dp3S, ev_dp3N, ev_sortedE, ev_srO1, ev_srO2, ev_gLd, ev_srKS, ev_srKI, ev_gDT, ev_gT, ev_tinE, ev_tiKK, ev_keysA, ev_keysN, ev_keysC, ev_dputTE, ev_dptK, ev_dispE, ev_mpN, ev_mpC, ev_pcK, ev_dsK, ev_dsK2, ev_lc2E, ev_imp, ev_simp, ev_split, ev_splF, ev_splG, ev_fmt, ev_fmtS, ev_fmtI, ev_addK, ev_js0, ev_js1, ev_joined, ev_star, ev_starK, ev_each2, ev_each2K, ev_unl, ev_unlK, ev_intS, ev_strYS, ev_strYI, ev_mjoin, ev_joinG, ev_joinK, ev_sbind, ev_miS, ev_siK, List.getElem?_cons_zero, List.getElem?_cons_succ, List.set_cons_zero, List.set_cons_succ, List.length_cons, List.length_nil, List.cons_append, List.nil_append, if_true, if_false, Bool.false_eq_true, Bool.true_eq_false, reduceIte, Bool.not_true, Bool.not_false, Bool.and_true, Bool.true_and, Bool.and_false, Bool.false_and, Bool.or_true, Bool.true_or, Bool.or_false, Bool.false_or, decide_eq_true_eq, Nat.reduceAdd, Nat.reduceLeDiff, Nat.zero_add, Int.reduceLT, Int.reduceLE, Int.reduceEq, Int.reduceNeg, Nat.reduceEqDiff, and_self, and_true, true_and, decide_true, decide_false, eq_self, ite_true, ite_false, Int.reduceSub, Int.reduceAdd, Int.cast_ofNat_Int, Int.natCast_add, Int.cast_ofNat_Int, Nat.reduceSub, Nat.add_assoc, String.reduceBEq, String.reduceEq, Bool.or_not_self, beq_self_eq_true, hn, c1]
  have hk : ((((ss.map A.str).length : Nat) : Int) - 1).toNat = ss.length - 1 := by rw [List.length_map]; omega
  rw [hk]
  refine lc_P (fun x => .bl (riseF ss x)) (fun _ => trivial) (by rw [rngA_len]; omega) (fun x hx => ?_) ?_
  · obtain ⟨i, hi⟩ := List.getElem?_of_mem hx
    obtain ⟨rfl, hi⟩ := rngA_get hi
    have h1 : i < ss.length := by omega
    have h2 : i + 1 < ss.length := by omega
    have a1 : atI (ss.map A.str) (0 + (i : Int)) = some (.str ss[i]) := by
      rw [Int.zero_add]
      exact atI_nat (by rw [List.getElem?_map, List.getElem?_eq_getElem h1]; rfl)
    have a2 : atI (ss.map A.str) (0 + (i : Int) + 1) = some (.str ss[i + 1]) := by
      rw [Int.zero_add]
      exact atI_nat (j := i + 1) (by rw [List.getElem?_map, List.getElem?_eq_getElem h2]; rfl)
    have rf : riseF ss (.int (0 + (i : Int))) = decide (ss[i].cps.toList < ss[i + 1].cps.toList) := by
      show decide ((ss.getD (0 + (i : Int)).toNat "").cps.toList < (ss.getD ((0 + (i : Int)).toNat + 1) "").cps.toList) = _
      rw [show (0 + (i : Int)).toNat = i by omega]
      simp [List.getD_eq_getElem?_getD, h1, h2]
    refine ⟨_, rfl, fun l => ?_⟩
    simp only [wp_okR, wp_okF, wp_fin, wp_next, wp_then, wp_bind, wp_nox, wp_tK, wp_bK, wp_fr, wp_fn, wp_nn, wp_nr, wp_nb, wp_nc, wp_ln, wp_lc, wp_lb, wp_lr, wp_jn, wp_jc, ev_bok, ev_bno, ev_bex, ev_tok, ev_tno, ev_tex, ev_nnx, ev_nrt, ev_nbk, ev_nct, ev_nex, ev_nno, ev_frt, ev_fnx, ev_fex, ev_xok, ev_lsome, ev_lnone, ev_seq, ev_if, ev_ret, ev_retN, ev_drop, ev_nop, ev_brk, ev_cont, ev_asgN, ev_asgT, ev_asgO, ev_mgTup, ev_mgN, ev_mgC, ev_mg0, ev_putL, ev_putO, ev_var, ev_vr, ev_c, ev_op, ev_un, ev_test, ev_tb, ev_notT, ev_andT, ev_orT, ev_ifE, ev_not, ev_nb, ev_and, ev_andK, ev_or, ev_orK, ev_chain, ev_chK, ev_nil, ev_cons, ev_tup, ev_lst, ev_new, ev_call, ev_cb, ev_size, ev_addI, ev_addS, ev_addT, ev_addL, ev_catO, ev_sub, ev_mul, ev_div, ev_mod, ev_p5, ev_p6, ev_p12, ev_p18, ev_p30, ev_neg, ev_ltI, ev_ltS, ev_leI, ev_leS, ev_gt, ev_ge, ev_eqI, ev_eqS, ev_neI, ev_neS, ev_neB, ev_eqB, ev_is, ev_isnot, ev_ixT, ev_ixS, ev_ixR, ev_ixL, ev_ixK, ev_getL, ev_getM, ev_gL, ev_gM, ev_at0, ev_at1, ev_at2, ev_at3, ev_at4, ev_lenS, ev_lenR, ev_lenT, ev_lenL, ev_lenO, ev_lenD, ev_abs, ev_min2, ev_max2, ev_intI, ev_intB, ev_set, ev_fc, ev_setset, ev_last, ev_appk, ev_app0, ev_setk, ev_set0, ev_assoc, ev_lapp, ev_lappA, ev_sl, ev_nopart, ev_part, ev_ptK, ev_slT, ev_slS, ev_slR, ev_slK, ev_tyN, ev_tyB, ev_tyI, ev_tyS, ev_tyT, ev_tyL, ev_tyR, ev_tyRL, ev_isi, ev_isi1, ev_isi2, ev_isi3, ev_isi4, ev_isi5, ev_isiT, ev_isi2K, ev_isTy, ev_list, ev_listK, ev_tuple, ev_tupK, ev_getST, ev_getSR, ev_getSL, ev_all, ev_allK, ev_eqXI, ev_eqXS, ev_neXI, ev_neXS, ev_neXB, ev_eqXB, ev_eqXR, ev_neXR, ev_nil2, ev_eqK, ev_neK, ev_meth, ev_meth0, ev_mth1, ev_mth2, ev_mth3, ev_append, ev_m0, ev_m0K, ev_str, ev_for, ev_miR1, ev_rg1K, ev_miL, ev_liK, ev_miT, ev_tiK, ev_lc, ev_wipe0, ev_wipeS, ev_yes, ev_lenSet, ev_lenSetK, ev_listR, ev_lrK, ev_put2, ev_p2A, ev_p2K, ev_p2E, ev_put1, ev_pt1, ev_addXI, ev_addXB, ev_addXS, ev_addXT, ev_addXL, ev_subXI, ev_subXB, ev_mulXI, ev_mulXB, ev_mulXL, ev_negXI, ev_negXB, ev_strXI, ev_strXB, ev_mulYI, ev_mulYB, ev_mulYL, ev_mulYT, ev_dnew, ev_dnewT, ev_dgetE, ev_getD, ev_gD, ev_keyI, ev_keyS, ev_dgK, ev_dinE, ev_diK, ev_dputE, ev_dpK, ev_dget2E, ev_isDA, ev_isSome, ev_isNone, ev_dg2K, ev_dpop2E, ev_dp2K, ev_dp3S, ev_dp3N, ev_sortedE, ev_srO1, ev_srO2, ev_gLd, ev_srKS, ev_srKI, ev_gDT, ev_gT, ev_tinE, ev_tiKK, ev_keysA, ev_keysN, ev_keysC, ev_dputTE, ev_dptK, ev_dispE, ev_mpN, ev_mpC, ev_pcK, ev_dsK, ev_dsK2, ev_lc2E, ev_imp, ev_simp, ev_split, ev_splF, ev_splG, ev_fmt, ev_fmtS, ev_fmtI, ev_addK, ev_js0, ev_js1, ev_joined, ev_star, ev_starK, ev_each2, ev_each2K, ev_unl, ev_unlK, ev_intS, ev_strYS, ev_strYI, ev_mjoin, ev_joinG, ev_joinK, ev_sbind, ev_miS, ev_siK, List.getElem?_cons_zero, List.getElem?_cons_succ, List.set_cons_zero, List.set_cons_succ, List.length_cons, List.length_nil, List.cons_append, List.nil_append, if_true, if_false, Bool.false_eq_true, Bool.true_eq_false, reduceIte, Bool.not_true, Bool.not_false, Bool.and_true, Bool.true_and, Bool.and_false, Bool.false_and, Bool.or_true, Bool.true_or, Bool.or_false, Bool.false_or, decide_eq_true_eq, Nat.reduceAdd, Nat.reduceLeDiff, Nat.zero_add, Int.reduceLT, Int.reduceLE, Int.reduceEq, Int.reduceNeg, Nat.reduceEqDiff, and_self, and_true, true_and, decide_true, decide_false, eq_self, ite_true, ite_false, Int.reduceSub, Int.reduceAdd, Int.cast_ofNat_Int, Int.natCast_add, Int.cast_ofNat_Int, Nat.reduceSub, Nat.add_assoc, String.reduceBEq, String.reduceEq, Bool.or_not_self, beq_self_eq_true, hn', a1, a2, rf]
  · simp only [wp_okR, wp_okF, wp_fin, wp_next, wp_then, wp_bind, wp_nox, wp_tK, wp_bK, wp_fr, wp_fn, wp_nn, wp_nr, wp_nb, wp_nc, wp_ln, wp_lc, wp_lb, wp_lr, wp_jn, wp_jc, ev_bok, ev_bno, ev_bex, ev_tok, ev_tno, ev_tex, ev_nnx, ev_nrt, ev_nbk, ev_nct, ev_nex, ev_nno, ev_frt, ev_fnx, ev_fex, ev_xok, ev_lsome, ev_lnone, ev_seq, ev_if, ev_ret, ev_retN, ev_drop, ev_nop, ev_brk, ev_cont, ev_asgN, ev_asgT, ev_asgO, ev_mgTup, ev_mgN, ev_mgC, ev_mg0, ev_putL, ev_putO, ev_var, ev_vr, ev_c, ev_op, ev_un, ev_test, ev_tb, ev_notT, ev_andT, ev_orT, ev_ifE, ev_not, ev_nb, ev_and, ev_andK, ev_or, ev_orK, ev_chain, ev_chK, ev_nil, ev_cons, ev_tup, ev_lst, ev_new, ev_call, ev_cb, ev_size, ev_addI, ev_addS, ev_addT, ev_addL, ev_catO, ev_sub, ev_mul, ev_div, ev_mod, ev_p5, ev_p6, ev_p12, ev_p18, ev_p30, ev_neg, ev_ltI, ev_ltS, ev_leI, ev_leS, ev_gt, ev_ge, ev_eqI, ev_eqS, ev_neI, ev_neS, ev_neB, ev_eqB, ev_is, ev_isnot, ev_ixT, ev_ixS, ev_ixR, ev_ixL, ev_ixK, ev_getL, ev_getM, ev_gL, ev_gM, ev_at0, ev_at1, ev_at2, ev_at3, ev_at4, ev_lenS, ev_lenR, ev_lenT, ev_lenL, ev_lenO, ev_lenD, ev_abs, ev_min2, ev_max2, ev_intI, ev_intB, ev_set, ev_fc, ev_setset, ev_last, ev_appk, ev_app0, ev_setk, ev_set0, ev_assoc, ev_lapp, ev_lappA, ev_sl, ev_nopart, ev_part, ev_ptK, ev_slT, ev_slS, ev_slR, ev_slK, ev_tyN, ev_tyB, ev_tyI, ev_tyS, ev_tyT, ev_tyL, ev_tyR, ev_tyRL, ev_isi, ev_isi1, ev_isi2, ev_isi3, ev_isi4, ev_isi5, ev_isiT, ev_isi2K, ev_isTy, ev_list, ev_listK, ev_tuple, ev_tupK, ev_getST, ev_getSR, ev_getSL, ev_all, ev_allK, ev_eqXI, ev_eqXS, ev_neXI, ev_neXS, ev_neXB, ev_eqXB, ev_eqXR, ev_neXR, ev_nil2, ev_eqK, ev_neK, ev_meth, ev_meth0, ev_mth1, ev_mth2, ev_mth3, ev_append, ev_m0, ev_m0K, ev_str, ev_for, ev_miR1, ev_rg1K, ev_miL, ev_liK, ev_miT, ev_tiK, ev_lc, ev_wipe0, ev_wipeS, ev_yes, ev_lenSet, ev_lenSetK, ev_listR, ev_lrK, ev_put2, ev_p2A, ev_p2K, ev_p2E, ev_put1, ev_pt1, ev_addXI, ev_addXB, ev_addXS, ev_addXT, ev_addXL, ev_subXI, ev_subXB, ev_mulXI, ev_mulXB, ev_mulXL, ev_negXI, ev_negXB, ev_strXI, ev_strXB, ev_mulYI, ev_mulYB, ev_mulYL, ev_mulYT, ev_dnew, ev_dnewT, ev_dgetE, ev_getD, ev_gD, ev_keyI, ev_keyS, ev_dgK, ev_dinE, ev_diK, ev_dputE, ev_dpK, ev_dget2E, ev_isDA, ev_isSome, ev_isNone, ev_dg2K, ev_dpop2E, ev_dp2K, ev_dp3S, ev_dp3N, ev_sortedE, ev_srO1, ev_srO2, ev_gLd, ev_srKS, ev_srKI, ev_gDT, ev_gT, ev_tinE, ev_tiKK, ev_keysA, ev_keysN, ev_keysC, ev_dputTE, ev_dptK, ev_dispE, ev_mpN, ev_mpC, ev_pcK, ev_dsK, ev_dsK2, ev_lc2E, ev_imp, ev_simp, ev_split, ev_splF, ev_splG, ev_fmt, ev_fmtS, ev_fmtI, ev_addK, ev_js0, ev_js1, ev_joined, ev_star, ev_starK, ev_each2, ev_each2K, ev_unl, ev_unlK, ev_intS, ev_strYS, ev_strYI, ev_mjoin, ev_joinG, ev_joinK, ev_sbind, ev_miS, ev_siK, List.getElem?_cons_zero, List.getElem?_cons_succ, List.set_cons_zero, List.set_cons_succ, List.length_cons, List.length_nil, List.cons_append, List.nil_append, if_true, if_false, Bool.false_eq_true, Bool.true_eq_false, reduceIte, Bool.not_true, Bool.not_false, Bool.and_true, Bool.true_and, Bool.and_false, Bool.false_and, Bool.or_true, Bool.true_or, Bool.or_false, Bool.false_or, decide_eq_true_eq, Nat.reduceAdd, Nat.reduceLeDiff, Nat.zero_add, Int.reduceLT, Int.reduceLE, Int.reduceEq, Int.reduceNeg, Nat.reduceEqDiff, and_self, and_true, true_and, decide_true, decide_false, eq_self, ite_true, ite_false, Int.reduceSub, Int.reduceAdd, Int.cast_ofNat_Int, Int.natCast_add, Int.cast_ofNat_Int, Nat.reduceSub, Nat.add_assoc, String.reduceBEq, String.reduceEq, Bool.or_not_self, beq_self_eq_true, bls_mapA, Option.map_some, all_id]
    refine ⟨?_, _, rfl⟩
    rw [← riseS_all]
    congr 1
    unfold rngA
    rw [List.all_map]
    congr 1
    funext i
    show decide ((ss.getD (0 + (i : Int)).toNat "").cps.toList < (ss.getD ((0 + (i : Int)).toNat + 1) "").cps.toList) = _
    rw [show (0 + (i : Int)).toNat = i by omega]
theorem rise_true : ∀ {ss : List Str}, (ss.Pairwise fun x y => x.cps.toList < y.cps.toList) → riseS ss = true
  | [], _ => rfl
  | [_], _ => rfl
  | x :: y :: r, h => by
    have h1 := (List.pairwise_cons.mp h).1 y List.mem_cons_self
    show (decide (x.cps.toList < y.cps.toList) && riseS (y :: r)) = true
    rw [decide_eq_true h1, rise_true (List.pairwise_cons.mp h).2]
    rfl
theorem isName_wp {S : Sto} {x : Str} (h : nameP x) : okR (m_is_name [.str x] S) fun y t => y = .bl true ∧ ∃ l, t = S ++ l := by
  obtain ⟨n1, n8, hc⟩ := h
  rw [st_is_name]
  unfold b_is_name
  have a1 : (1 : Int) ≤ (x.length : Nat) := by omega
  have a2 : ((x.length : Nat) : Int) ≤ 8 := by omega
  have a3 : x.length ≤ 16777216 := by omega
  have cl : x.cps.toList.length = x.length := by simp [Str.length]
  simp only [wp_okR, wp_okF, wp_fin, wp_next, wp_then, wp_bind, wp_nox, wp_tK, wp_bK, wp_fr, wp_fn, wp_nn, wp_nr, wp_nb, wp_nc, wp_ln, wp_lc, wp_lb, wp_lr, wp_jn, wp_jc, ev_bok, ev_bno, ev_bex, ev_tok, ev_tno, ev_tex, ev_nnx, ev_nrt, ev_nbk, ev_nct, ev_nex, ev_nno, ev_frt, ev_fnx, ev_fex, ev_xok, ev_lsome, ev_lnone, ev_seq, ev_if, ev_ret, ev_retN, ev_drop, ev_nop, ev_brk, ev_cont, ev_asgN, ev_asgT, ev_asgO, ev_mgTup, ev_mgN, ev_mgC, ev_mg0, ev_putL, ev_putO, ev_var, ev_vr, ev_c, ev_op, ev_un, ev_test, ev_tb, ev_notT, ev_andT, ev_orT, ev_ifE, ev_not, ev_nb, ev_and, ev_andK, ev_or, ev_orK, ev_chain, ev_chK, ev_nil, ev_cons, ev_tup, ev_lst, ev_new, ev_call, ev_cb, ev_size, ev_addI, ev_addS, ev_addT, ev_addL, ev_catO, ev_sub, ev_mul, ev_div, ev_mod, ev_p5, ev_p6, ev_p12, ev_p18, ev_p30, ev_neg, ev_ltI, ev_ltS, ev_leI, ev_leS, ev_gt, ev_ge, ev_eqI, ev_eqS, ev_neI, ev_neS, ev_neB, ev_eqB, ev_is, ev_isnot, ev_ixT, ev_ixS, ev_ixR, ev_ixL, ev_ixK, ev_getL, ev_getM, ev_gL, ev_gM, ev_at0, ev_at1, ev_at2, ev_at3, ev_at4, ev_lenS, ev_lenR, ev_lenT, ev_lenL, ev_lenO, ev_lenD, ev_abs, ev_min2, ev_max2, ev_intI, ev_intB, ev_set, ev_fc, ev_setset, ev_last, ev_appk, ev_app0, ev_setk, ev_set0, ev_assoc, ev_lapp, ev_lappA, ev_sl, ev_nopart, ev_part, ev_ptK, ev_slT, ev_slS, ev_slR, ev_slK, ev_tyN, ev_tyB, ev_tyI, ev_tyS, ev_tyT, ev_tyL, ev_tyR, ev_tyRL, ev_isi, ev_isi1, ev_isi2, ev_isi3, ev_isi4, ev_isi5, ev_isiT, ev_isi2K, ev_isTy, ev_list, ev_listK, ev_tuple, ev_tupK, ev_getST, ev_getSR, ev_getSL, ev_all, ev_allK, ev_eqXI, ev_eqXS, ev_neXI, ev_neXS, ev_neXB, ev_eqXB, ev_eqXR, ev_neXR, ev_nil2, ev_eqK, ev_neK, ev_meth, ev_meth0, ev_mth1, ev_mth2, ev_mth3, ev_append, ev_m0, ev_m0K, ev_str, ev_for, ev_miR1, ev_rg1K, ev_miL, ev_liK, ev_miT, ev_tiK, ev_lc, ev_wipe0, ev_wipeS, ev_yes, ev_lenSet, ev_lenSetK, ev_listR, ev_lrK, ev_put2, ev_p2A, ev_p2K, ev_p2E, ev_put1, ev_pt1, ev_addXI, ev_addXB, ev_addXS, ev_addXT, ev_addXL, ev_subXI, ev_subXB, ev_mulXI, ev_mulXB, ev_mulXL, ev_negXI, ev_negXB, ev_strXI, ev_strXB, ev_mulYI, ev_mulYB, ev_mulYL, ev_mulYT, ev_dnew, ev_dnewT, ev_dgetE, ev_getD, ev_gD, ev_keyI, ev_keyS, ev_dgK, ev_dinE, ev_diK, ev_dputE, ev_dpK, ev_dget2E, ev_isDA, ev_isSome, ev_isNone, ev_dg2K, ev_dpop2E, ev_dp2K, ev_dp3S, ev_dp3N, ev_sortedE, ev_srO1, ev_srO2, ev_gLd, ev_srKS, ev_srKI, ev_gDT, ev_gT, ev_tinE, ev_tiKK, ev_keysA, ev_keysN, ev_keysC, ev_dputTE, ev_dptK, ev_dispE, ev_mpN, ev_mpC, ev_pcK, ev_dsK, ev_dsK2, ev_lc2E, ev_imp, ev_simp, ev_split, ev_splF, ev_splG, ev_fmt, ev_fmtS, ev_fmtI, ev_addK, ev_js0, ev_js1, ev_joined, ev_star, ev_starK, ev_each2, ev_each2K, ev_unl, ev_unlK, ev_intS, ev_strYS, ev_strYI, ev_mjoin, ev_joinG, ev_joinK, ev_sbind, ev_miS, ev_siK, List.getElem?_cons_zero, List.getElem?_cons_succ, List.set_cons_zero, List.set_cons_succ, List.length_cons, List.length_nil, List.cons_append, List.nil_append, if_true, if_false, Bool.false_eq_true, Bool.true_eq_false, reduceIte, Bool.not_true, Bool.not_false, Bool.and_true, Bool.true_and, Bool.and_false, Bool.false_and, Bool.or_true, Bool.true_or, Bool.or_false, Bool.false_or, decide_eq_true_eq, Nat.reduceAdd, Nat.reduceLeDiff, Nat.zero_add, Int.reduceLT, Int.reduceLE, Int.reduceEq, Int.reduceNeg, Nat.reduceEqDiff, and_self, and_true, true_and, decide_true, decide_false, eq_self, ite_true, ite_false, Int.reduceSub, Int.reduceAdd, Int.cast_ofNat_Int, Int.natCast_add, Int.cast_ofNat_Int, Nat.reduceSub, Nat.add_assoc, String.reduceBEq, String.reduceEq, Bool.or_not_self, beq_self_eq_true, a1, a2, a3]
  refine lc_P (fun _ => .bl true) (fun _ => trivial) (by unfold signs; rw [List.length_map]; omega) (fun y hy => ?_) ?_
  · unfold signs at hy
    obtain ⟨c, hc', rfl⟩ := List.mem_map.mp hy
    have hm : c ∈ alpha.cps.toList := by
      have hm := hc c hc'
      have : ∀ d, d < 26 → 97 + d ∈ alpha.cps.toList := by decide +kernel
      have := this (c - 97) (by omega)
      rwa [show 97 + (c - 97) = c by omega] at this
    have e : ∀ k, oInX (.str ⟨#[c]⟩) (.str (Str.ofString "abcdefghijklmnopqrstuvwxyz")) (S ++ k) = .ok (.bl (decide (c ∈ alpha.cps.toList))) (S ++ k) := fun _ => rfl
    refine ⟨_, rfl, fun k => ?_⟩
    simp only [wp_okR, wp_okF, wp_fin, wp_next, wp_then, wp_bind, wp_nox, wp_tK, wp_bK, wp_fr, wp_fn, wp_nn, wp_nr, wp_nb, wp_nc, wp_ln, wp_lc, wp_lb, wp_lr, wp_jn, wp_jc, ev_bok, ev_bno, ev_bex, ev_tok, ev_tno, ev_tex, ev_nnx, ev_nrt, ev_nbk, ev_nct, ev_nex, ev_nno, ev_frt, ev_fnx, ev_fex, ev_xok, ev_lsome, ev_lnone, ev_seq, ev_if, ev_ret, ev_retN, ev_drop, ev_nop, ev_brk, ev_cont, ev_asgN, ev_asgT, ev_asgO, ev_mgTup, ev_mgN, ev_mgC, ev_mg0, ev_putL, ev_putO, ev_var, ev_vr, ev_c, ev_op, ev_un, ev_test, ev_tb, ev_notT, ev_andT, ev_orT, ev_ifE, ev_not, ev_nb, ev_and, ev_andK, ev_or, ev_orK, ev_chain, ev_chK, ev_nil, ev_cons, ev_tup, ev_lst, ev_new, ev_call, ev_cb, ev_size, ev_addI, ev_addS, ev_addT, ev_addL, ev_catO, ev_sub, ev_mul, ev_div, ev_mod, ev_p5, ev_p6, ev_p12, ev_p18, ev_p30, ev_neg, ev_ltI, ev_ltS, ev_leI, ev_leS, ev_gt, ev_ge, ev_eqI, ev_eqS, ev_neI, ev_neS, ev_neB, ev_eqB, ev_is, ev_isnot, ev_ixT, ev_ixS, ev_ixR, ev_ixL, ev_ixK, ev_getL, ev_getM, ev_gL, ev_gM, ev_at0, ev_at1, ev_at2, ev_at3, ev_at4, ev_lenS, ev_lenR, ev_lenT, ev_lenL, ev_lenO, ev_lenD, ev_abs, ev_min2, ev_max2, ev_intI, ev_intB, ev_set, ev_fc, ev_setset, ev_last, ev_appk, ev_app0, ev_setk, ev_set0, ev_assoc, ev_lapp, ev_lappA, ev_sl, ev_nopart, ev_part, ev_ptK, ev_slT, ev_slS, ev_slR, ev_slK, ev_tyN, ev_tyB, ev_tyI, ev_tyS, ev_tyT, ev_tyL, ev_tyR, ev_tyRL, ev_isi, ev_isi1, ev_isi2, ev_isi3, ev_isi4, ev_isi5, ev_isiT, ev_isi2K, ev_isTy, ev_list, ev_listK, ev_tuple, ev_tupK, ev_getST, ev_getSR, ev_getSL, ev_all, ev_allK, ev_eqXI, ev_eqXS, ev_neXI, ev_neXS, ev_neXB, ev_eqXB, ev_eqXR, ev_neXR, ev_nil2, ev_eqK, ev_neK, ev_meth, ev_meth0, ev_mth1, ev_mth2, ev_mth3, ev_append, ev_m0, ev_m0K, ev_str, ev_for, ev_miR1, ev_rg1K, ev_miL, ev_liK, ev_miT, ev_tiK, ev_lc, ev_wipe0, ev_wipeS, ev_yes, ev_lenSet, ev_lenSetK, ev_listR, ev_lrK, ev_put2, ev_p2A, ev_p2K, ev_p2E, ev_put1, ev_pt1, ev_addXI, ev_addXB, ev_addXS, ev_addXT, ev_addXL, ev_subXI, ev_subXB, ev_mulXI, ev_mulXB, ev_mulXL, ev_negXI, ev_negXB, ev_strXI, ev_strXB, ev_mulYI, ev_mulYB, ev_mulYL, ev_mulYT, ev_dnew, ev_dnewT, ev_dgetE, ev_getD, ev_gD, ev_keyI, ev_keyS, ev_dgK, ev_dinE, ev_diK, ev_dputE, ev_dpK, ev_dget2E, ev_isDA, ev_isSome, ev_isNone, ev_dg2K, ev_dpop2E, ev_dp2K, ev_dp3S, ev_dp3N, ev_sortedE, ev_srO1, ev_srO2, ev_gLd, ev_srKS, ev_srKI, ev_gDT, ev_gT, ev_tinE, ev_tiKK, ev_keysA, ev_keysN, ev_keysC, ev_dputTE, ev_dptK, ev_dispE, ev_mpN, ev_mpC, ev_pcK, ev_dsK, ev_dsK2, ev_lc2E, ev_imp, ev_simp, ev_split, ev_splF, ev_splG, ev_fmt, ev_fmtS, ev_fmtI, ev_addK, ev_js0, ev_js1, ev_joined, ev_star, ev_starK, ev_each2, ev_each2K, ev_unl, ev_unlK, ev_intS, ev_strYS, ev_strYI, ev_mjoin, ev_joinG, ev_joinK, ev_sbind, ev_miS, ev_siK, List.getElem?_cons_zero, List.getElem?_cons_succ, List.set_cons_zero, List.set_cons_succ, List.length_cons, List.length_nil, List.cons_append, List.nil_append, if_true, if_false, Bool.false_eq_true, Bool.true_eq_false, reduceIte, Bool.not_true, Bool.not_false, Bool.and_true, Bool.true_and, Bool.and_false, Bool.false_and, Bool.or_true, Bool.true_or, Bool.or_false, Bool.false_or, decide_eq_true_eq, Nat.reduceAdd, Nat.reduceLeDiff, Nat.zero_add, Int.reduceLT, Int.reduceLE, Int.reduceEq, Int.reduceNeg, Nat.reduceEqDiff, and_self, and_true, true_and, decide_true, decide_false, eq_self, ite_true, ite_false, Int.reduceSub, Int.reduceAdd, Int.cast_ofNat_Int, Int.natCast_add, Int.cast_ofNat_Int, Nat.reduceSub, Nat.add_assoc, String.reduceBEq, String.reduceEq, Bool.or_not_self, beq_self_eq_true, e, hm]
  · have lf : ∀ (a : A) (s : Sto), lift (some a) s = .ok a s := fun _ _ => rfl
    simp only [wp_okR, wp_okF, wp_fin, wp_next, wp_then, wp_bind, wp_nox, wp_tK, wp_bK, wp_fr, wp_fn, wp_nn, wp_nr, wp_nb, wp_nc, wp_ln, wp_lc, wp_lb, wp_lr, wp_jn, wp_jc, ev_bok, ev_bno, ev_bex, ev_tok, ev_tno, ev_tex, ev_nnx, ev_nrt, ev_nbk, ev_nct, ev_nex, ev_nno, ev_frt, ev_fnx, ev_fex, ev_xok, ev_lsome, ev_lnone, ev_seq, ev_if, ev_ret, ev_retN, ev_drop, ev_nop, ev_brk, ev_cont, ev_asgN, ev_asgT, ev_asgO, ev_mgTup, ev_mgN, ev_mgC, ev_mg0, ev_putL, ev_putO, ev_var, ev_vr, ev_c, ev_op, ev_un, ev_test, ev_tb, ev_notT, ev_andT, ev_orT, ev_ifE, ev_not, ev_nb, ev_and, ev_andK, ev_or, ev_orK, ev_chain, ev_chK, ev_nil, ev_cons, ev_tup, ev_lst, ev_new, ev_call, ev_cb, ev_size, ev_addI, ev_addS, ev_addT, ev_addL, ev_catO, ev_sub, ev_mul, ev_div, ev_mod, ev_p5, ev_p6, ev_p12, ev_p18, ev_p30, ev_neg, ev_ltI, ev_ltS, ev_leI, ev_leS, ev_gt, ev_ge, ev_eqI, ev_eqS, ev_neI, ev_neS, ev_neB, ev_eqB, ev_is, ev_isnot, ev_ixT, ev_ixS, ev_ixR, ev_ixL, ev_ixK, ev_getL, ev_getM, ev_gL, ev_gM, ev_at0, ev_at1, ev_at2, ev_at3, ev_at4, ev_lenS, ev_lenR, ev_lenT, ev_lenL, ev_lenO, ev_lenD, ev_abs, ev_min2, ev_max2, ev_intI, ev_intB, ev_set, ev_fc, ev_setset, ev_last, ev_appk, ev_app0, ev_setk, ev_set0, ev_assoc, ev_lapp, ev_lappA, ev_sl, ev_nopart, ev_part, ev_ptK, ev_slT, ev_slS, ev_slR, ev_slK, ev_tyN, ev_tyB, ev_tyI, ev_tyS, ev_tyT, ev_tyL, ev_tyR, ev_tyRL, ev_isi, ev_isi1, ev_isi2, ev_isi3, ev_isi4, ev_isi5, ev_isiT, ev_isi2K, ev_isTy, ev_list, ev_listK, ev_tuple, ev_tupK, ev_getST, ev_getSR, ev_getSL, ev_all, ev_allK, ev_eqXI, ev_eqXS, ev_neXI, ev_neXS, ev_neXB, ev_eqXB, ev_eqXR, ev_neXR, ev_nil2, ev_eqK, ev_neK, ev_meth, ev_meth0, ev_mth1, ev_mth2, ev_mth3, ev_append, ev_m0, ev_m0K, ev_str, ev_for, ev_miR1, ev_rg1K, ev_miL, ev_liK, ev_miT, ev_tiK, ev_lc, ev_wipe0, ev_wipeS, ev_yes, ev_lenSet, ev_lenSetK, ev_listR, ev_lrK, ev_put2, ev_p2A, ev_p2K, ev_p2E, ev_put1, ev_pt1, ev_addXI, ev_addXB, ev_addXS, ev_addXT, ev_addXL, ev_subXI, ev_subXB, ev_mulXI, ev_mulXB, ev_mulXL, ev_negXI, ev_negXB, ev_strXI, ev_strXB, ev_mulYI, ev_mulYB, ev_mulYL, ev_mulYT, ev_dnew, ev_dnewT, ev_dgetE, ev_getD, ev_gD, ev_keyI, ev_keyS, ev_dgK, ev_dinE, ev_diK, ev_dputE, ev_dpK, ev_dget2E, ev_isDA, ev_isSome, ev_isNone, ev_dg2K, ev_dpop2E, ev_dp2K, ev_dp3S, ev_dp3N, ev_sortedE, ev_srO1, ev_srO2, ev_gLd, ev_srKS, ev_srKI, ev_gDT, ev_gT, ev_tinE, ev_tiKK, ev_keysA, ev_keysN, ev_keysC, ev_dputTE, ev_dptK, ev_dispE, ev_mpN, ev_mpC, ev_pcK, ev_dsK, ev_dsK2, ev_lc2E, ev_imp, ev_simp, ev_split, ev_splF, ev_splG, ev_fmt, ev_fmtS, ev_fmtI, ev_addK, ev_js0, ev_js1, ev_joined, ev_star, ev_starK, ev_each2, ev_each2K, ev_unl, ev_unlK, ev_intS, ev_strYS, ev_strYI, ev_mjoin, ev_joinG, ev_joinK, ev_sbind, ev_miS, ev_siK, List.getElem?_cons_zero, List.getElem?_cons_succ, List.set_cons_zero, List.set_cons_succ, List.length_cons, List.length_nil, List.cons_append, List.nil_append, if_true, if_false, Bool.false_eq_true, Bool.true_eq_false, reduceIte, Bool.not_true, Bool.not_false, Bool.and_true, Bool.true_and, Bool.and_false, Bool.false_and, Bool.or_true, Bool.true_or, Bool.or_false, Bool.false_or, decide_eq_true_eq, Nat.reduceAdd, Nat.reduceLeDiff, Nat.zero_add, Int.reduceLT, Int.reduceLE, Int.reduceEq, Int.reduceNeg, Nat.reduceEqDiff, and_self, and_true, true_and, decide_true, decide_false, eq_self, ite_true, ite_false, Int.reduceSub, Int.reduceAdd, Int.cast_ofNat_Int, Int.natCast_add, Int.cast_ofNat_Int, Nat.reduceSub, Nat.add_assoc, String.reduceBEq, String.reduceEq, Bool.or_not_self, beq_self_eq_true, bls_true, Option.map_some, all_true, lf]
    exact ⟨_, rfl⟩
theorem within_is {S : Sto} {i lo hi : Int} (h0 : lo ≤ i) (h1 : i ≤ hi) : m_is_within [.int i, .int lo, .int hi] S = .ok (.bl true) S := by
  rw [within_ev ⟨_, rfl⟩]
  show Res.ok (A.bl (decide (lo ≤ i) && decide (i ≤ hi))) S = _
  rw [decide_eq_true h0, decide_eq_true h1]
  rfl
theorem tuple_is {S : Sto} {xs : List A} {lo hi : Int} (h0 : lo ≤ xs.length) (h1 : (xs.length : Int) ≤ hi) : m_is_tuple [.tup xs, .int lo, .int hi] S = .ok (.bl true) S := by
  rw [tuple_ev ⟨_, rfl⟩]
  show Res.ok (A.bl (decide (lo ≤ (xs.length : Int)) && decide ((xs.length : Int) ≤ hi))) S = _
  rw [decide_eq_true h0, decide_eq_true h1]
  rfl
theorem isFile_wp {S : Sto} {q : Str × Int} (hn : nameP q.1) (h0 : 1 ≤ q.2) (h1 : q.2 ≤ 4) : okR (m_is_file [.tup (fileR q)] S) fun y t => y = .bl true ∧ ∃ l, t = S ++ l := by
  rw [st_is_file]
  unfold b_is_file fileR
  have t2 := tuple_is (S := S) (xs := [.str q.1, .int q.2]) (lo := 2) (hi := 2) (Int.le_refl 2) (Int.le_refl 2)
  simp only [wp_okR, wp_okF, wp_fin, wp_next, wp_then, wp_bind, wp_nox, wp_tK, wp_bK, wp_fr, wp_fn, wp_nn, wp_nr, wp_nb, wp_nc, wp_ln, wp_lc, wp_lb, wp_lr, wp_jn, wp_jc, ev_bok, ev_bno, ev_bex, ev_tok, ev_tno, ev_tex, ev_nnx, ev_nrt, ev_nbk, ev_nct, ev_nex, ev_nno, ev_frt, ev_fnx, ev_fex, ev_xok, ev_lsome, ev_lnone, ev_seq, ev_if, ev_ret, ev_retN, ev_drop, ev_nop, ev_brk, ev_cont, ev_asgN, ev_asgT, ev_asgO, ev_mgTup, ev_mgN, ev_mgC, ev_mg0, ev_putL, ev_putO, ev_var, ev_vr, ev_c, ev_op, ev_un, ev_test, ev_tb, ev_notT, ev_andT, ev_orT, ev_ifE, ev_not, ev_nb, ev_and, ev_andK, ev_or, ev_orK, ev_chain, ev_chK, ev_nil, ev_cons, ev_tup, ev_lst, ev_new, ev_call, ev_cb, ev_size, ev_addI, ev_addS, ev_addT, ev_addL, ev_catO, ev_sub, ev_mul, ev_div, ev_mod, ev_p5, ev_p6, ev_p12, ev_p18, ev_p30, ev_neg, ev_ltI, ev_ltS, ev_leI, ev_leS, ev_gt, ev_ge, ev_eqI, ev_eqS, ev_neI, ev_neS, ev_neB, ev_eqB, ev_is, ev_isnot, ev_ixT, ev_ixS, ev_ixR, ev_ixL, ev_ixK, ev_getL, ev_getM, ev_gL, ev_gM, ev_at0, ev_at1, ev_at2, ev_at3, ev_at4, ev_lenS, ev_lenR, ev_lenT, ev_lenL, ev_lenO, ev_lenD, ev_abs, ev_min2, ev_max2, ev_intI, ev_intB, ev_set, ev_fc, ev_setset, ev_last, ev_appk, ev_app0, ev_setk, ev_set0, ev_assoc, ev_lapp, ev_lappA, ev_sl, ev_nopart, ev_part, ev_ptK, ev_slT, ev_slS, ev_slR, ev_slK, ev_tyN, ev_tyB, ev_tyI, ev_tyS, ev_tyT, ev_tyL, ev_tyR, ev_tyRL, ev_isi, ev_isi1, ev_isi2, ev_isi3, ev_isi4, ev_isi5, ev_isiT, ev_isi2K, ev_isTy, ev_list, ev_listK, ev_tuple, ev_tupK, ev_getST, ev_getSR, ev_getSL, ev_all, ev_allK, ev_eqXI, ev_eqXS, ev_neXI, ev_neXS, ev_neXB, ev_eqXB, ev_eqXR, ev_neXR, ev_nil2, ev_eqK, ev_neK, ev_meth, ev_meth0, ev_mth1, ev_mth2, ev_mth3, ev_append, ev_m0, ev_m0K, ev_str, ev_for, ev_miR1, ev_rg1K, ev_miL, ev_liK, ev_miT, ev_tiK, ev_lc, ev_wipe0, ev_wipeS, ev_yes, ev_lenSet, ev_lenSetK, ev_listR, ev_lrK, ev_put2, ev_p2A, ev_p2K, ev_p2E, ev_put1, ev_pt1, ev_addXI, ev_addXB, ev_addXS, ev_addXT, ev_addXL, ev_subXI, ev_subXB, ev_mulXI, ev_mulXB, ev_mulXL, ev_negXI, ev_negXB, ev_strXI, ev_strXB, ev_mulYI, ev_mulYB, ev_mulYL, ev_mulYT, ev_dnew, ev_dnewT, ev_dgetE, ev_getD, ev_gD, ev_keyI, ev_keyS, ev_dgK, ev_dinE, ev_diK, ev_dputE, ev_dpK, ev_dget2E, ev_isDA, ev_isSome, ev_isNone, ev_dg2K, ev_dpop2E, ev_dp2K, ev_dp3S, ev_dp3N, ev_sortedE, ev_srO1, ev_srO2, ev_gLd, ev_srKS, ev_srKI, ev_gDT, ev_gT, ev_tinE, ev_tiKK, ev_keysA, ev_keysN, ev_keysC, ev_dputTE, ev_dptK, ev_dispE, ev_mpN, ev_mpC, ev_pcK, ev_dsK, ev_dsK2, ev_lc2E, ev_imp, ev_simp, ev_split, ev_splF, ev_splG, ev_fmt, ev_fmtS, ev_fmtI, ev_addK, ev_js0, ev_js1, ev_joined, ev_star, ev_starK, ev_each2, ev_each2K, ev_unl, ev_unlK, ev_intS, ev_strYS, ev_strYI, ev_mjoin, ev_joinG, ev_joinK, ev_sbind, ev_miS, ev_siK, List.getElem?_cons_zero, List.getElem?_cons_succ, List.set_cons_zero, List.set_cons_succ, List.length_cons, List.length_nil, List.cons_append, List.nil_append, if_true, if_false, Bool.false_eq_true, Bool.true_eq_false, reduceIte, Bool.not_true, Bool.not_false, Bool.and_true, Bool.true_and, Bool.and_false, Bool.false_and, Bool.or_true, Bool.true_or, Bool.or_false, Bool.false_or, decide_eq_true_eq, Nat.reduceAdd, Nat.reduceLeDiff, Nat.zero_add, Int.reduceLT, Int.reduceLE, Int.reduceEq, Int.reduceNeg, Nat.reduceEqDiff, and_self, and_true, true_and, decide_true, decide_false, eq_self, ite_true, ite_false, Int.reduceSub, Int.reduceAdd, Int.cast_ofNat_Int, Int.natCast_add, Int.cast_ofNat_Int, Nat.reduceSub, Nat.add_assoc, String.reduceBEq, String.reduceEq, Bool.or_not_self, beq_self_eq_true, t2]
  refine okR_use (isName_wp hn) fun a s h => ?_
  obtain ⟨rfl, k, rfl⟩ := h
  have w2 := within_is (S := S ++ k) h0 h1
  simp only [wp_okR, wp_okF, wp_fin, wp_next, wp_then, wp_bind, wp_nox, wp_tK, wp_bK, wp_fr, wp_fn, wp_nn, wp_nr, wp_nb, wp_nc, wp_ln, wp_lc, wp_lb, wp_lr, wp_jn, wp_jc, ev_bok, ev_bno, ev_bex, ev_tok, ev_tno, ev_tex, ev_nnx, ev_nrt, ev_nbk, ev_nct, ev_nex, ev_nno, ev_frt, ev_fnx, ev_fex, ev_xok, ev_lsome, ev_lnone, ev_seq, ev_if, ev_ret, ev_retN, ev_drop, ev_nop, ev_brk, ev_cont, ev_asgN, ev_asgT, ev_asgO, ev_mgTup, ev_mgN, ev_mgC, ev_mg0, ev_putL, ev_putO, ev_var, ev_vr, ev_c, ev_op, ev_un, ev_test, ev_tb, ev_notT, ev_andT, ev_orT, ev_ifE, ev_not, ev_nb, ev_and, ev_andK, ev_or, ev_orK, ev_chain, ev_chK, ev_nil, ev_cons, ev_tup, ev_lst, ev_new, ev_call, ev_cb, ev_size, ev_addI, ev_addS, ev_addT, ev_addL, ev_catO, ev_sub, ev_mul, ev_div, ev_mod, ev_p5, ev_p6, ev_p12, ev_p18, ev_p30, ev_neg, ev_ltI, ev_ltS, ev_leI, ev_leS, ev_gt, ev_ge, ev_eqI, ev_eqS, ev_neI, ev_neS, ev_neB, ev_eqB, ev_is, ev_isnot, ev_ixT, ev_ixS, ev_ixR, ev_ixL, ev_ixK, ev_getL, ev_getM, ev_gL, ev_gM, ev_at0, ev_at1, ev_at2, ev_at3, ev_at4, ev_lenS, ev_lenR, ev_lenT, ev_lenL, ev_lenO, ev_lenD, ev_abs, ev_min2, ev_max2, ev_intI, ev_intB, ev_set, ev_fc, ev_setset, ev_last, ev_appk, ev_app0, ev_setk, ev_set0, ev_assoc, ev_lapp, ev_lappA, ev_sl, ev_nopart, ev_part, ev_ptK, ev_slT, ev_slS, ev_slR, ev_slK, ev_tyN, ev_tyB, ev_tyI, ev_tyS, ev_tyT, ev_tyL, ev_tyR, ev_tyRL, ev_isi, ev_isi1, ev_isi2, ev_isi3, ev_isi4, ev_isi5, ev_isiT, ev_isi2K, ev_isTy, ev_list, ev_listK, ev_tuple, ev_tupK, ev_getST, ev_getSR, ev_getSL, ev_all, ev_allK, ev_eqXI, ev_eqXS, ev_neXI, ev_neXS, ev_neXB, ev_eqXB, ev_eqXR, ev_neXR, ev_nil2, ev_eqK, ev_neK, ev_meth, ev_meth0, ev_mth1, ev_mth2, ev_mth3, ev_append, ev_m0, ev_m0K, ev_str, ev_for, ev_miR1, ev_rg1K, ev_miL, ev_liK, ev_miT, ev_tiK, ev_lc, ev_wipe0, ev_wipeS, ev_yes, ev_lenSet, ev_lenSetK, ev_listR, ev_lrK, ev_put2, ev_p2A, ev_p2K, ev_p2E, ev_put1, ev_pt1, ev_addXI, ev_addXB, ev_addXS, ev_addXT, ev_addXL, ev_subXI, ev_subXB, ev_mulXI, ev_mulXB, ev_mulXL, ev_negXI, ev_negXB, ev_strXI, ev_strXB, ev_mulYI, ev_mulYB, ev_mulYL, ev_mulYT, ev_dnew, ev_dnewT, ev_dgetE, ev_getD, ev_gD, ev_keyI, ev_keyS, ev_dgK, ev_dinE, ev_diK, ev_dputE, ev_dpK, ev_dget2E, ev_isDA, ev_isSome, ev_isNone, ev_dg2K, ev_dpop2E, ev_dp2K, ev_dp3S, ev_dp3N, ev_sortedE, ev_srO1, ev_srO2, ev_gLd, ev_srKS, ev_srKI, ev_gDT, ev_gT, ev_tinE, ev_tiKK, ev_keysA, ev_keysN, ev_keysC, ev_dputTE, ev_dptK, ev_dispE, ev_mpN, ev_mpC, ev_pcK, ev_dsK, ev_dsK2, ev_lc2E, ev_imp, ev_simp, ev_split, ev_splF, ev_splG, ev_fmt, ev_fmtS, ev_fmtI, ev_addK, ev_js0, ev_js1, ev_joined, ev_star, ev_starK, ev_each2, ev_each2K, ev_unl, ev_unlK, ev_intS, ev_strYS, ev_strYI, ev_mjoin, ev_joinG, ev_joinK, ev_sbind, ev_miS, ev_siK, List.getElem?_cons_zero, List.getElem?_cons_succ, List.set_cons_zero, List.set_cons_succ, List.length_cons, List.length_nil, List.cons_append, List.nil_append, if_true, if_false, Bool.false_eq_true, Bool.true_eq_false, reduceIte, Bool.not_true, Bool.not_false, Bool.and_true, Bool.true_and, Bool.and_false, Bool.false_and, Bool.or_true, Bool.true_or, Bool.or_false, Bool.false_or, decide_eq_true_eq, Nat.reduceAdd, Nat.reduceLeDiff, Nat.zero_add, Int.reduceLT, Int.reduceLE, Int.reduceEq, Int.reduceNeg, Nat.reduceEqDiff, and_self, and_true, true_and, decide_true, decide_false, eq_self, ite_true, ite_false, Int.reduceSub, Int.reduceAdd, Int.cast_ofNat_Int, Int.natCast_add, Int.cast_ofNat_Int, Nat.reduceSub, Nat.add_assoc, String.reduceBEq, String.reduceEq, Bool.or_not_self, beq_self_eq_true, w2]
  exact ⟨_, rfl⟩
theorem isClient_wp {S : Sto} {q : Str × Int × Int} (hn : nameP q.1) (hs : q.1 ≠ "server") (h0 : 50 ≤ q.2.1) (h1 : q.2.1 ≤ 200) (h2 : 0 ≤ q.2.2) (h3 : q.2.2 ≤ 99) : okR (m_is_client [.tup (cliR q)] S) fun y t => y = .bl true ∧ ∃ l, t = S ++ l := by
  rw [st_is_client]
  unfold b_is_client cliR
  have t2 := tuple_is (S := S) (xs := [.str q.1, .int q.2.1, .int q.2.2]) (lo := 3) (hi := 3) (Int.le_refl 3) (Int.le_refl 3)
  simp only [wp_okR, wp_okF, wp_fin, wp_next, wp_then, wp_bind, wp_nox, wp_tK, wp_bK, wp_fr, wp_fn, wp_nn, wp_nr, wp_nb, wp_nc, wp_ln, wp_lc, wp_lb, wp_lr, wp_jn, wp_jc, ev_bok, ev_bno, ev_bex, ev_tok, ev_tno, ev_tex, ev_nnx, ev_nrt, ev_nbk, ev_nct, ev_nex, ev_nno, ev_frt, ev_fnx, ev_fex, ev_xok, ev_lsome, ev_lnone, ev_seq, ev_if, ev_ret, ev_retN, ev_drop, ev_nop, ev_brk, ev_cont, ev_asgN, ev_asgT, ev_asgO, ev_mgTup, ev_mgN, ev_mgC, ev_mg0, ev_putL, ev_putO, ev_var, ev_vr, ev_c, ev_op, ev_un, ev_test, ev_tb, ev_notT, ev_andT, ev_orT, ev_ifE, ev_not, ev_nb, ev_and, ev_andK, ev_or, ev_orK, ev_chain, ev_chK, ev_nil, ev_cons, ev_tup, ev_lst, ev_new, ev_call, ev_cb, ev_size, ev_addI, ev_addS, ev_addT, ev_addL, ev_catO, ev_sub, ev_mul, ev_div, ev_mod, ev_p5, ev_p6, ev_p12, ev_p18, ev_p30, ev_neg, ev_ltI, ev_ltS, ev_leI, ev_leS, ev_gt, ev_ge, ev_eqI, ev_eqS, ev_neI, ev_neS, ev_neB, ev_eqB, ev_is, ev_isnot, ev_ixT, ev_ixS, ev_ixR, ev_ixL, ev_ixK, ev_getL, ev_getM, ev_gL, ev_gM, ev_at0, ev_at1, ev_at2, ev_at3, ev_at4, ev_lenS, ev_lenR, ev_lenT, ev_lenL, ev_lenO, ev_lenD, ev_abs, ev_min2, ev_max2, ev_intI, ev_intB, ev_set, ev_fc, ev_setset, ev_last, ev_appk, ev_app0, ev_setk, ev_set0, ev_assoc, ev_lapp, ev_lappA, ev_sl, ev_nopart, ev_part, ev_ptK, ev_slT, ev_slS, ev_slR, ev_slK, ev_tyN, ev_tyB, ev_tyI, ev_tyS, ev_tyT, ev_tyL, ev_tyR, ev_tyRL, ev_isi, ev_isi1, ev_isi2, ev_isi3, ev_isi4, ev_isi5, ev_isiT, ev_isi2K, ev_isTy, ev_list, ev_listK, ev_tuple, ev_tupK, ev_getST, ev_getSR, ev_getSL, ev_all, ev_allK, ev_eqXI, ev_eqXS, ev_neXI, ev_neXS, ev_neXB, ev_eqXB, ev_eqXR, ev_neXR, ev_nil2, ev_eqK, ev_neK, ev_meth, ev_meth0, ev_mth1, ev_mth2, ev_mth3, ev_append, ev_m0, ev_m0K, ev_str, ev_for, ev_miR1, ev_rg1K, ev_miL, ev_liK, ev_miT, ev_tiK, ev_lc, ev_wipe0, ev_wipeS, ev_yes, ev_lenSet, ev_lenSetK, ev_listR, ev_lrK, ev_put2, ev_p2A, ev_p2K, ev_p2E, ev_put1, ev_pt1, ev_addXI, ev_addXB, ev_addXS, ev_addXT, ev_addXL, ev_subXI, ev_subXB, ev_mulXI, ev_mulXB, ev_mulXL, ev_negXI, ev_negXB, ev_strXI, ev_strXB, ev_mulYI, ev_mulYB, ev_mulYL, ev_mulYT, ev_dnew, ev_dnewT, ev_dgetE, ev_getD, ev_gD, ev_keyI, ev_keyS, ev_dgK, ev_dinE, ev_diK, ev_dputE, ev_dpK, ev_dget2E, ev_isDA, ev_isSome, ev_isNone, ev_dg2K, ev_dpop2E, ev_dp2K, ev_dp3S, ev_dp3N, ev_sortedE, ev_srO1, ev_srO2, ev_gLd, ev_srKS, ev_srKI, ev_gDT, ev_gT, ev_tinE, ev_tiKK, ev_keysA, ev_keysN, ev_keysC, ev_dputTE, ev_dptK, ev_dispE, ev_mpN, ev_mpC, ev_pcK, ev_dsK, ev_dsK2, ev_lc2E, ev_imp, ev_simp, ev_split, ev_splF, ev_splG, ev_fmt, ev_fmtS, ev_fmtI, ev_addK, ev_js0, ev_js1, ev_joined, ev_star, ev_starK, ev_each2, ev_each2K, ev_unl, ev_unlK, ev_intS, ev_strYS, ev_strYI, ev_mjoin, ev_joinG, ev_joinK, ev_sbind, ev_miS, ev_siK, List.getElem?_cons_zero, List.getElem?_cons_succ, List.set_cons_zero, List.set_cons_succ, List.length_cons, List.length_nil, List.cons_append, List.nil_append, if_true, if_false, Bool.false_eq_true, Bool.true_eq_false, reduceIte, Bool.not_true, Bool.not_false, Bool.and_true, Bool.true_and, Bool.and_false, Bool.false_and, Bool.or_true, Bool.true_or, Bool.or_false, Bool.false_or, decide_eq_true_eq, Nat.reduceAdd, Nat.reduceLeDiff, Nat.zero_add, Int.reduceLT, Int.reduceLE, Int.reduceEq, Int.reduceNeg, Nat.reduceEqDiff, and_self, and_true, true_and, decide_true, decide_false, eq_self, ite_true, ite_false, Int.reduceSub, Int.reduceAdd, Int.cast_ofNat_Int, Int.natCast_add, Int.cast_ofNat_Int, Nat.reduceSub, Nat.add_assoc, String.reduceBEq, String.reduceEq, Bool.or_not_self, beq_self_eq_true, t2]
  refine okR_use (isName_wp hn) fun a s h => ?_
  obtain ⟨rfl, k, rfl⟩ := h
  have w1 := within_is (S := S ++ k) h0 h1
  have w2 := within_is (S := S ++ k) h2 h3
  have d := decide_eq_false hs
  simp only [wp_okR, wp_okF, wp_fin, wp_next, wp_then, wp_bind, wp_nox, wp_tK, wp_bK, wp_fr, wp_fn, wp_nn, wp_nr, wp_nb, wp_nc, wp_ln, wp_lc, wp_lb, wp_lr, wp_jn, wp_jc, ev_bok, ev_bno, ev_bex, ev_tok, ev_tno, ev_tex, ev_nnx, ev_nrt, ev_nbk, ev_nct, ev_nex, ev_nno, ev_frt, ev_fnx, ev_fex, ev_xok, ev_lsome, ev_lnone, ev_seq, ev_if, ev_ret, ev_retN, ev_drop, ev_nop, ev_brk, ev_cont, ev_asgN, ev_asgT, ev_asgO, ev_mgTup, ev_mgN, ev_mgC, ev_mg0, ev_putL, ev_putO, ev_var, ev_vr, ev_c, ev_op, ev_un, ev_test, ev_tb, ev_notT, ev_andT, ev_orT, ev_ifE, ev_not, ev_nb, ev_and, ev_andK, ev_or, ev_orK, ev_chain, ev_chK, ev_nil, ev_cons, ev_tup, ev_lst, ev_new, ev_call, ev_cb, ev_size, ev_addI, ev_addS, ev_addT, ev_addL, ev_catO, ev_sub, ev_mul, ev_div, ev_mod, ev_p5, ev_p6, ev_p12, ev_p18, ev_p30, ev_neg, ev_ltI, ev_ltS, ev_leI, ev_leS, ev_gt, ev_ge, ev_eqI, ev_eqS, ev_neI, ev_neS, ev_neB, ev_eqB, ev_is, ev_isnot, ev_ixT, ev_ixS, ev_ixR, ev_ixL, ev_ixK, ev_getL, ev_getM, ev_gL, ev_gM, ev_at0, ev_at1, ev_at2, ev_at3, ev_at4, ev_lenS, ev_lenR, ev_lenT, ev_lenL, ev_lenO, ev_lenD, ev_abs, ev_min2, ev_max2, ev_intI, ev_intB, ev_set, ev_fc, ev_setset, ev_last, ev_appk, ev_app0, ev_setk, ev_set0, ev_assoc, ev_lapp, ev_lappA, ev_sl, ev_nopart, ev_part, ev_ptK, ev_slT, ev_slS, ev_slR, ev_slK, ev_tyN, ev_tyB, ev_tyI, ev_tyS, ev_tyT, ev_tyL, ev_tyR, ev_tyRL, ev_isi, ev_isi1, ev_isi2, ev_isi3, ev_isi4, ev_isi5, ev_isiT, ev_isi2K, ev_isTy, ev_list, ev_listK, ev_tuple, ev_tupK, ev_getST, ev_getSR, ev_getSL, ev_all, ev_allK, ev_eqXI, ev_eqXS, ev_neXI, ev_neXS, ev_neXB, ev_eqXB, ev_eqXR, ev_neXR, ev_nil2, ev_eqK, ev_neK, ev_meth, ev_meth0, ev_mth1, ev_mth2, ev_mth3, ev_append, ev_m0, ev_m0K, ev_str, ev_for, ev_miR1, ev_rg1K, ev_miL, ev_liK, ev_miT, ev_tiK, ev_lc, ev_wipe0, ev_wipeS, ev_yes, ev_lenSet, ev_lenSetK, ev_listR, ev_lrK, ev_put2, ev_p2A, ev_p2K, ev_p2E, ev_put1, ev_pt1, ev_addXI, ev_addXB, ev_addXS, ev_addXT, ev_addXL, ev_subXI, ev_subXB, ev_mulXI, ev_mulXB, ev_mulXL, ev_negXI, ev_negXB, ev_strXI, ev_strXB, ev_mulYI, ev_mulYB, ev_mulYL, ev_mulYT, ev_dnew, ev_dnewT, ev_dgetE, ev_getD, ev_gD, ev_keyI, ev_keyS, ev_dgK, ev_dinE, ev_diK, ev_dputE, ev_dpK, ev_dget2E, ev_isDA, ev_isSome, ev_isNone, ev_dg2K, ev_dpop2E, ev_dp2K, ev_dp3S, ev_dp3N, ev_sortedE, ev_srO1, ev_srO2, ev_gLd, ev_srKS, ev_srKI, ev_gDT, ev_gT, ev_tinE, ev_tiKK, ev_keysA, ev_keysN, ev_keysC, ev_dputTE, ev_dptK, ev_dispE, ev_mpN, ev_mpC, ev_pcK, ev_dsK, ev_dsK2, ev_lc2E, ev_imp, ev_simp, ev_split, ev_splF, ev_splG, ev_fmt, ev_fmtS, ev_fmtI, ev_addK, ev_js0, ev_js1, ev_joined, ev_star, ev_starK, ev_each2, ev_each2K, ev_unl, ev_unlK, ev_intS, ev_strYS, ev_strYI, ev_mjoin, ev_joinG, ev_joinK, ev_sbind, ev_miS, ev_siK, List.getElem?_cons_zero, List.getElem?_cons_succ, List.set_cons_zero, List.set_cons_succ, List.length_cons, List.length_nil, List.cons_append, List.nil_append, if_true, if_false, Bool.false_eq_true, Bool.true_eq_false, reduceIte, Bool.not_true, Bool.not_false, Bool.and_true, Bool.true_and, Bool.and_false, Bool.false_and, Bool.or_true, Bool.true_or, Bool.or_false, Bool.false_or, decide_eq_true_eq, Nat.reduceAdd, Nat.reduceLeDiff, Nat.zero_add, Int.reduceLT, Int.reduceLE, Int.reduceEq, Int.reduceNeg, Nat.reduceEqDiff, and_self, and_true, true_and, decide_true, decide_false, eq_self, ite_true, ite_false, Int.reduceSub, Int.reduceAdd, Int.cast_ofNat_Int, Int.natCast_add, Int.cast_ofNat_Int, Nat.reduceSub, Nat.add_assoc, String.reduceBEq, String.reduceEq, Bool.or_not_self, beq_self_eq_true, w1, w2, d]
  exact ⟨_, rfl⟩

def headF : A → A
  | .tup (x :: _) => x
  | _ => .non
theorem areFiles_wp {S : Sto} {fs : List (Str × Int)} (hn : NamesG (fs.map (·.1))) (hl : fs.length ≤ 3) (hc : ∀ q ∈ fs, 1 ≤ q.2 ∧ q.2 ≤ 4) : okR (m_are_files [.tup ((fs.map fileR).map A.tup)] S) fun y t => y = .bl true ∧ ∃ l, t = S ++ l := by
  have h1 : 1 ≤ fs.length := by
    have := hn.ne
    cases fs with
    | nil => exact absurd rfl this
    | cons a r => rw [List.length_cons]; omega
  have ll : (((fs.map fileR).map A.tup).length : Nat) = fs.length := by rw [List.length_map, List.length_map]
  rw [st_are_files]
  unfold b_are_files
  have t2 := tuple_is (S := S) (xs := (fs.map fileR).map A.tup) (lo := 1) (hi := 3) (by rw [ll]; omega) (by rw [ll]; omega)
  simp only [wp_okR, wp_okF, wp_fin, wp_next, wp_then, wp_bind, wp_nox, wp_tK, wp_bK, wp_fr, wp_fn, wp_nn, wp_nr, wp_nb, wp_nc, wp_ln, wp_lc, wp_lb, wp_lr, wp_jn, wp_jc, ev_bok, ev_bno, ev_bex, ev_tok, ev_tno, ev_tex, ev_nnx, ev_nrt, ev_nbk, ev_nct, ev_nex, ev_nno, ev_frt, ev_fnx, ev_fex, ev_xok, ev_lsome, ev_lnone, ev_seq, ev_if, ev_ret, ev_retN, ev_drop, ev_nop, ev_brk, ev_cont, ev_asgN, ev_asgT, ev_asgO, ev_mgTup, ev_mgN, ev_mgC, ev_mg0, ev_putL, ev_putO, ev_var, ev_vr, ev_c, ev_op, ev_un, ev_test, ev_tb, ev_notT, ev_andT, ev_orT, ev_ifE, ev_not, ev_nb, ev_and, ev_andK, ev_or, ev_orK, ev_chain, ev_chK, ev_nil, ev_cons, ev_tup, ev_lst, ev_new, ev_call, ev_cb, ev_size, ev_addI, ev_addS, ev_addT, ev_addL, ev_catO, ev_sub, ev_mul, ev_div, ev_mod, ev_p5, ev_p6, ev_p12, ev_p18, ev_p30, ev_neg, ev_ltI, ev_ltS, ev_leI, ev_leS, ev_gt, ev_ge, ev_eqI, ev_eqS, ev_neI, ev_neS, ev_neB, ev_eqB, ev_is, ev_isnot, ev_ixT, ev_ixS, ev_ixR, ev_ixL, ev_ixK, ev_getL, ev_getM, ev_gL, ev_gM, ev_at0, ev_at1, ev_at2, ev_at3, ev_at4, ev_lenS, ev_lenR, ev_lenT, ev_lenL, ev_lenO, ev_lenD, ev_abs, ev_min2, ev_max2, ev_intI, ev_intB, ev_set, ev_fc, ev_setset, ev_last, ev_appk, ev_app0, ev_setk, ev_set0, ev_assoc, ev_lapp, ev_lappA, ev_sl, ev_nopart, ev_part, ev_ptK, ev_slT, ev_slS, ev_slR, ev_slK, ev_tyN, ev_tyB, ev_tyI, ev_tyS, ev_tyT, ev_tyL, ev_tyR, ev_tyRL, ev_isi, ev_isi1, ev_isi2, ev_isi3, ev_isi4, ev_isi5, ev_isiT, ev_isi2K, ev_isTy, ev_list, ev_listK, ev_tuple, ev_tupK, ev_getST, ev_getSR, ev_getSL, ev_all, ev_allK, ev_eqXI, ev_eqXS, ev_neXI, ev_neXS, ev_neXB, ev_eqXB, ev_eqXR, ev_neXR, ev_nil2, ev_eqK, ev_neK, ev_meth, ev_meth0, ev_mth1, ev_mth2, ev_mth3, ev_append, ev_m0, ev_m0K, ev_str, ev_for, ev_miR1, ev_rg1K, ev_miL, ev_liK, ev_miT, ev_tiK, ev_lc, ev_wipe0, ev_wipeS, ev_yes, ev_lenSet, ev_lenSetK, ev_listR, ev_lrK, ev_put2, ev_p2A, ev_p2K, ev_p2E, ev_put1, ev_pt1, ev_addXI, ev_addXB, ev_addXS, ev_addXT, ev_addXL, ev_subXI, ev_subXB, ev_mulXI, ev_mulXB, ev_mulXL, ev_negXI, ev_negXB, ev_strXI, ev_strXB, ev_mulYI, ev_mulYB, ev_mulYL, ev_mulYT, ev_dnew, ev_dnewT, ev_dgetE, ev_getD, ev_gD, ev_keyI, ev_keyS, ev_dgK, ev_dinE, ev_diK, ev_dputE, ev_dpK, ev_dget2E, ev_isDA, ev_isSome, ev_isNone, ev_dg2K, ev_dpop2E, ev_dp2K, ev_dp3S, ev_dp3N, ev_sortedE, ev_srO1, ev_srO2, ev_gLd, ev_srKS, ev_srKI, ev_gDT, ev_gT, ev_tinE, ev_tiKK, ev_keysA, ev_keysN, ev_keysC, ev_dputTE, ev_dptK, ev_dispE, ev_mpN, ev_mpC, ev_pcK, ev_dsK, ev_dsK2, ev_lc2E, ev_imp, ev_simp, ev_split, ev_splF, ev_splG, ev_fmt, ev_fmtS, ev_fmtI, ev_addK, ev_js0, ev_js1, ev_joined, ev_star, ev_starK, ev_each2, ev_each2K, ev_unl, ev_unlK, ev_intS, ev_strYS, ev_strYI, ev_mjoin, ev_joinG, ev_joinK, ev_sbind, ev_miS, ev_siK, List.getElem?_cons_zero, List.getElem?_cons_succ, List.set_cons_zero, List.set_cons_succ, List.length_cons, List.length_nil, List.cons_append, List.nil_append, if_true, if_false, Bool.false_eq_true, Bool.true_eq_false, reduceIte, Bool.not_true, Bool.not_false, Bool.and_true, Bool.true_and, Bool.and_false, Bool.false_and, Bool.or_true, Bool.true_or, Bool.or_false, Bool.false_or, decide_eq_true_eq, Nat.reduceAdd, Nat.reduceLeDiff, Nat.zero_add, Int.reduceLT, Int.reduceLE, Int.reduceEq, Int.reduceNeg, Nat.reduceEqDiff, and_self, and_true, true_and, decide_true, decide_false, eq_self, ite_true, ite_false, Int.reduceSub, Int.reduceAdd, Int.cast_ofNat_Int, Int.natCast_add, Int.cast_ofNat_Int, Nat.reduceSub, Nat.add_assoc, String.reduceBEq, String.reduceEq, Bool.or_not_self, beq_self_eq_true, t2]
  refine lc_M (fun _ => .bl true) (fun _ => trivial) (by rw [ll]; omega) (fun x hx => ?_) (fun l' => ?_)
  · obtain ⟨r, hr, rfl⟩ := List.mem_map.mp hx
    obtain ⟨q, hq, rfl⟩ := List.mem_map.mp hr
    have hq1 := hn.nm q.1 (List.mem_map.mpr ⟨q, hq, rfl⟩)
    have hq2 := hc q hq
    refine ⟨_, rfl, fun k => ?_⟩
    simp only [wp_okR, wp_okF, wp_fin, wp_next, wp_then, wp_bind, wp_nox, wp_tK, wp_bK, wp_fr, wp_fn, wp_nn, wp_nr, wp_nb, wp_nc, wp_ln, wp_lc, wp_lb, wp_lr, wp_jn, wp_jc, ev_bok, ev_bno, ev_bex, ev_tok, ev_tno, ev_tex, ev_nnx, ev_nrt, ev_nbk, ev_nct, ev_nex, ev_nno, ev_frt, ev_fnx, ev_fex, ev_xok, ev_lsome, ev_lnone, ev_seq, ev_if, ev_ret, ev_retN, ev_drop, ev_nop, ev_brk, ev_cont, ev_asgN, ev_asgT, ev_asgO, ev_mgTup, ev_mgN, ev_mgC, ev_mg0, ev_putL, ev_putO, ev_var, ev_vr, ev_c, ev_op, ev_un, ev_test, ev_tb, ev_notT, ev_andT, ev_orT, ev_ifE, ev_not, ev_nb, ev_and, ev_andK, ev_or, ev_orK, ev_chain, ev_chK, ev_nil, ev_cons, ev_tup, ev_lst, ev_new, ev_call, ev_cb, ev_size, ev_addI, ev_addS, ev_addT, ev_addL, ev_catO, ev_sub, ev_mul, ev_div, ev_mod, ev_p5, ev_p6, ev_p12, ev_p18, ev_p30, ev_neg, ev_ltI, ev_ltS, ev_leI, ev_leS, ev_gt, ev_ge, ev_eqI, ev_eqS, ev_neI, ev_neS, ev_neB, ev_eqB, ev_is, ev_isnot, ev_ixT, ev_ixS, ev_ixR, ev_ixL, ev_ixK, ev_getL, ev_getM, ev_gL, ev_gM, ev_at0, ev_at1, ev_at2, ev_at3, ev_at4, ev_lenS, ev_lenR, ev_lenT, ev_lenL, ev_lenO, ev_lenD, ev_abs, ev_min2, ev_max2, ev_intI, ev_intB, ev_set, ev_fc, ev_setset, ev_last, ev_appk, ev_app0, ev_setk, ev_set0, ev_assoc, ev_lapp, ev_lappA, ev_sl, ev_nopart, ev_part, ev_ptK, ev_slT, ev_slS, ev_slR, ev_slK, ev_tyN, ev_tyB, ev_tyI, ev_tyS, ev_tyT, ev_tyL, ev_tyR, ev_tyRL, ev_isi, ev_isi1, ev_isi2, ev_isi3, ev_isi4, ev_isi5, ev_isiT, ev_isi2K, ev_isTy, ev_list, ev_listK, ev_tuple, ev_tupK, ev_getST, ev_getSR, ev_getSL, ev_all, ev_allK, ev_eqXI, ev_eqXS, ev_neXI, ev_neXS, ev_neXB, ev_eqXB, ev_eqXR, ev_neXR, ev_nil2, ev_eqK, ev_neK, ev_meth, ev_meth0, ev_mth1, ev_mth2, ev_mth3, ev_append, ev_m0, ev_m0K, ev_str, ev_for, ev_miR1, ev_rg1K, ev_miL, ev_liK, ev_miT, ev_tiK, ev_lc, ev_wipe0, ev_wipeS, ev_yes, ev_lenSet, ev_lenSetK, ev_listR, ev_lrK, ev_put2, ev_p2A, ev_p2K, ev_p2E, ev_put1, ev_pt1, ev_addXI, ev_addXB, ev_addXS, ev_addXT, ev_addXL, ev_subXI, ev_subXB, ev_mulXI, ev_mulXB, ev_mulXL, ev_negXI, ev_negXB, ev_strXI, ev_strXB, ev_mulYI, ev_mulYB, ev_mulYL, ev_mulYT, ev_dnew, ev_dnewT, ev_dgetE, ev_getD, ev_gD, ev_keyI, ev_keyS, ev_dgK, ev_dinE, ev_diK, ev_dputE, ev_dpK, ev_dget2E, ev_isDA, ev_isSome, ev_isNone, ev_dg2K, ev_dpop2E, ev_dp2K, ev_dp3S, ev_dp3N, ev_sortedE, ev_srO1, ev_srO2, ev_gLd, ev_srKS, ev_srKI, ev_gDT, ev_gT, ev_tinE, ev_tiKK, ev_keysA, ev_keysN, ev_keysC, ev_dputTE, ev_dptK, ev_dispE, ev_mpN, ev_mpC, ev_pcK, ev_dsK, ev_dsK2, ev_lc2E, ev_imp, ev_simp, ev_split, ev_splF, ev_splG, ev_fmt, ev_fmtS, ev_fmtI, ev_addK, ev_js0, ev_js1, ev_joined, ev_star, ev_starK, ev_each2, ev_each2K, ev_unl, ev_unlK, ev_intS, ev_strYS, ev_strYI, ev_mjoin, ev_joinG, ev_joinK, ev_sbind, ev_miS, ev_siK, List.getElem?_cons_zero, List.getElem?_cons_succ, List.set_cons_zero, List.set_cons_succ, List.length_cons, List.length_nil, List.cons_append, List.nil_append, if_true, if_false, Bool.false_eq_true, Bool.true_eq_false, reduceIte, Bool.not_true, Bool.not_false, Bool.and_true, Bool.true_and, Bool.and_false, Bool.false_and, Bool.or_true, Bool.true_or, Bool.or_false, Bool.false_or, decide_eq_true_eq, Nat.reduceAdd, Nat.reduceLeDiff, Nat.zero_add, Int.reduceLT, Int.reduceLE, Int.reduceEq, Int.reduceNeg, Nat.reduceEqDiff, and_self, and_true, true_and, decide_true, decide_false, eq_self, ite_true, ite_false, Int.reduceSub, Int.reduceAdd, Int.cast_ofNat_Int, Int.natCast_add, Int.cast_ofNat_Int, Nat.reduceSub, Nat.add_assoc, String.reduceBEq, String.reduceEq, Bool.or_not_self, beq_self_eq_true]
    refine okR_use (isFile_wp hq1.1 hq2.1 hq2.2) fun a s h => ?_
    obtain ⟨rfl, k2, rfl⟩ := h
    exact ⟨rfl, k2, List.append_assoc _ _ _⟩
  · have lf : ∀ (a : A) (s : Sto), lift (some a) s = .ok a s := fun _ _ => rfl
    simp only [wp_okR, wp_okF, wp_fin, wp_next, wp_then, wp_bind, wp_nox, wp_tK, wp_bK, wp_fr, wp_fn, wp_nn, wp_nr, wp_nb, wp_nc, wp_ln, wp_lc, wp_lb, wp_lr, wp_jn, wp_jc, ev_bok, ev_bno, ev_bex, ev_tok, ev_tno, ev_tex, ev_nnx, ev_nrt, ev_nbk, ev_nct, ev_nex, ev_nno, ev_frt, ev_fnx, ev_fex, ev_xok, ev_lsome, ev_lnone, ev_seq, ev_if, ev_ret, ev_retN, ev_drop, ev_nop, ev_brk, ev_cont, ev_asgN, ev_asgT, ev_asgO, ev_mgTup, ev_mgN, ev_mgC, ev_mg0, ev_putL, ev_putO, ev_var, ev_vr, ev_c, ev_op, ev_un, ev_test, ev_tb, ev_notT, ev_andT, ev_orT, ev_ifE, ev_not, ev_nb, ev_and, ev_andK, ev_or, ev_orK, ev_chain, ev_chK, ev_nil, ev_cons, ev_tup, ev_lst, ev_new, ev_call, ev_cb, ev_size, ev_addI, ev_addS, ev_addT, ev_addL, ev_catO, ev_sub, ev_mul, ev_div, ev_mod, ev_p5, ev_p6, ev_p12, ev_p18, ev_p30, ev_neg, ev_ltI, ev_ltS, ev_leI, ev_leS, ev_gt, ev_ge, ev_eqI, ev_eqS, ev_neI, ev_neS, ev_neB, ev_eqB, ev_is, ev_isnot, ev_ixT, ev_ixS, ev_ixR, ev_ixL, ev_ixK, ev_getL, ev_getM, ev_gL, ev_gM, ev_at0, ev_at1, ev_at2, ev_at3, ev_at4, ev_lenS, ev_lenR, ev_lenT, ev_lenL, ev_lenO, ev_lenD, ev_abs, ev_min2, ev_max2, ev_intI, ev_intB, ev_set, ev_fc, ev_setset, ev_last, ev_appk, ev_app0, ev_setk, ev_set0, ev_assoc, ev_lapp, ev_lappA, ev_sl, ev_nopart, ev_part, ev_ptK, ev_slT, ev_slS, ev_slR, ev_slK, ev_tyN, ev_tyB, ev_tyI, ev_tyS, ev_tyT, ev_tyL, ev_tyR, ev_tyRL, ev_isi, ev_isi1, ev_isi2, ev_isi3, ev_isi4, ev_isi5, ev_isiT, ev_isi2K, ev_isTy, ev_list, ev_listK, ev_tuple, ev_tupK, ev_getST, ev_getSR, ev_getSL, ev_all, ev_allK, ev_eqXI, ev_eqXS, ev_neXI, ev_neXS, ev_neXB, ev_eqXB, ev_eqXR, ev_neXR, ev_nil2, ev_eqK, ev_neK, ev_meth, ev_meth0, ev_mth1, ev_mth2, ev_mth3, ev_append, ev_m0, ev_m0K, ev_str, ev_for, ev_miR1, ev_rg1K, ev_miL, ev_liK, ev_miT, ev_tiK, ev_lc, ev_wipe0, ev_wipeS, ev_yes, ev_lenSet, ev_lenSetK, ev_listR, ev_lrK, ev_put2, ev_p2A, ev_p2K, ev_p2E, ev_put1, ev_pt1, ev_addXI, ev_addXB, ev_addXS, ev_addXT, ev_addXL, ev_subXI, ev_subXB, ev_mulXI, ev_mulXB, ev_mulXL, ev_negXI, ev_negXB, ev_strXI, ev_strXB, ev_mulYI, ev_mulYB, ev_mulYL, ev_mulYT, ev_dnew, ev_dnewT, ev_dgetE, ev_getD, ev_gD, ev_keyI, ev_keyS, ev_dgK, ev_dinE, ev_diK, ev_dputE, ev_dpK, ev_dget2E, ev_isDA, ev_isSome, ev_isNone, ev_dg2K, ev_dpop2E, ev_dp2K, ev_dp3S, ev_dp3N, ev_sortedE, ev_srO1, ev_srO2, ev_gLd, ev_srKS, ev_srKI, ev_gDT, ev_gT, ev_tinE, ev_tiKK, ev_keysA, ev_keysN, ev_keysC, ev_dputTE, ev_dptK, ev_dispE, ev_mpN, ev_mpC, ev_pcK, ev_dsK, ev_dsK2, ev_lc2E, ev_imp, ev_simp, ev_split, ev_splF, ev_splG, ev_fmt, ev_fmtS, ev_fmtI, ev_addK, ev_js0, ev_js1, ev_joined, ev_star, ev_starK, ev_each2, ev_each2K, ev_unl, ev_unlK, ev_intS, ev_strYS, ev_strYI, ev_mjoin, ev_joinG, ev_joinK, ev_sbind, ev_miS, ev_siK, List.getElem?_cons_zero, List.getElem?_cons_succ, List.set_cons_zero, List.set_cons_succ, List.length_cons, List.length_nil, List.cons_append, List.nil_append, if_true, if_false, Bool.false_eq_true, Bool.true_eq_false, reduceIte, Bool.not_true, Bool.not_false, Bool.and_true, Bool.true_and, Bool.and_false, Bool.false_and, Bool.or_true, Bool.true_or, Bool.or_false, Bool.false_or, decide_eq_true_eq, Nat.reduceAdd, Nat.reduceLeDiff, Nat.zero_add, Int.reduceLT, Int.reduceLE, Int.reduceEq, Int.reduceNeg, Nat.reduceEqDiff, and_self, and_true, true_and, decide_true, decide_false, eq_self, ite_true, ite_false, Int.reduceSub, Int.reduceAdd, Int.cast_ofNat_Int, Int.natCast_add, Int.cast_ofNat_Int, Nat.reduceSub, Nat.add_assoc, String.reduceBEq, String.reduceEq, Bool.or_not_self, beq_self_eq_true, bls_true, Option.map_some, all_true, lf]
    obtain ⟨S1, hS1⟩ : ∃ S1, S1 = S ++ AO.lst (((fs.map fileR).map A.tup).map fun _ => A.bl true) :: l' := ⟨_, rfl⟩
    have z1 : S.length + (l'.length + 1) = S1.length := by rw [hS1, List.length_append]; rfl
    have es : S ++ AO.lst (((fs.map fileR).map A.tup).map fun _ => A.bl true) :: (l' ++ [AO.lst []]) = S1 ++ [AO.lst []] := by
      rw [hS1, List.append_assoc]
      rfl
    rw [es, z1]
    refine lc_P headF (fun _ => trivial) (by rw [ll]; omega) (fun x hx => ?_) ?_
    · obtain ⟨r, hr, rfl⟩ := List.mem_map.mp hx
      obtain ⟨q, hq, rfl⟩ := List.mem_map.mp hr
      refine ⟨_, rfl, fun k => ?_⟩
      have j0 : ∀ a b : A, atI [a, b] 0 = some a := fun _ _ => rfl
      simp only [wp_okR, wp_okF, wp_fin, wp_next, wp_then, wp_bind, wp_nox, wp_tK, wp_bK, wp_fr, wp_fn, wp_nn, wp_nr, wp_nb, wp_nc, wp_ln, wp_lc, wp_lb, wp_lr, wp_jn, wp_jc, ev_bok, ev_bno, ev_bex, ev_tok, ev_tno, ev_tex, ev_nnx, ev_nrt, ev_nbk, ev_nct, ev_nex, ev_nno, ev_frt, ev_fnx, ev_fex, ev_xok, ev_lsome, ev_lnone, ev_seq, ev_if, ev_ret, ev_retN, ev_drop, ev_nop, ev_brk, ev_cont, ev_asgN, ev_asgT, ev_asgO, ev_mgTup, ev_mgN, ev_mgC, ev_mg0, ev_putL, ev_putO, ev_var, ev_vr, ev_c, ev_op, ev_un, ev_test, ev_tb, ev_notT, ev_andT, ev_orT, ev_ifE, ev_not, ev_nb, ev_and, ev_andK, ev_or, ev_orK, ev_chain, ev_chK, ev_nil, ev_cons, ev_tup, ev_lst, ev_new, ev_call, ev_cb, ev_size, ev_addI, ev_addS, ev_addT, ev_addL, ev_catO, ev_sub, ev_mul, ev_div, ev_mod, ev_p5, ev_p6, ev_p12, ev_p18, ev_p30, ev_neg, ev_ltI, ev_ltS, ev_leI, ev_leS, ev_gt, ev_ge, ev_eqI, ev_eqS, ev_neI, ev_neS, ev_neB, ev_eqB, ev_is, ev_isnot, ev_ixT, ev_ixS, ev_ixR, ev_ixL, ev_ixK, ev_getL, ev_getM, ev_gL, ev_gM, ev_at0, ev_at1, ev_at2, ev_at3, ev_at4, ev_lenS, ev_lenR, ev_lenT, ev_lenL, ev_lenO, ev_lenD, ev_abs, ev_min2, ev_max2, ev_intI, ev_intB, ev_set, ev_fc, ev_setset, ev_last, ev_appk, ev_app0, ev_setk, ev_set0, ev_assoc, ev_lapp, ev_lappA, ev_sl, ev_nopart, ev_part, ev_ptK, ev_slT, ev_slS, ev_slR, ev_slK, ev_tyN, ev_tyB, ev_tyI, ev_tyS, ev_tyT, ev_tyL, ev_tyR, ev_tyRL, ev_isi, ev_isi1, ev_isi2, ev_isi3, ev_isi4, ev_isi5, ev_isiT, ev_isi2K, ev_isTy, ev_list, ev_listK, ev_tuple, ev_tupK, ev_getST, ev_getSR, ev_getSL, ev_all, ev_allK, ev_eqXI, ev_eqXS, ev_neXI, ev_neXS, ev_neXB, ev_eqXB, ev_eqXR, ev_neXR, ev_nil2, ev_eqK, ev_neK, ev_meth, ev_meth0, ev_mth1, ev_mth2, ev_mth3, ev_append, ev_m0, ev_m0K, ev_str, ev_for, ev_miR1, ev_rg1K, ev_miL, ev_liK, ev_miT, ev_tiK, ev_lc, ev_wipe0, ev_wipeS, ev_yes, ev_lenSet, ev_lenSetK, ev_listR, ev_lrK, ev_put2, ev_p2A, ev_p2K, ev_p2E, ev_put1, ev_pt1, ev_addXI, ev_addXB, ev_addXS, ev_addXT, ev_addXL, ev_subXI, ev_subXB, ev_mulXI, ev_mulXB, ev_mulXL, ev_negXI, ev_negXB, ev_strXI, ev_strXB, ev_mulYI, ev_mulYB, ev_mulYL, ev_mulYT, ev_dnew, ev_dnewT, ev_dgetE, ev_getD, ev_gD, ev_keyI, ev_keyS, ev_dgK, ev_dinE, ev_diK, ev_dputE, ev_dpK, ev_dget2E, ev_isDA, ev_isSome, ev_isNone, ev_dg2K, ev_dpop2E, ev_dp2K, ev_dp3S, ev_dp3N, ev_sortedE, ev_srO1, ev_srO2, ev_gLd, ev_srKS, ev_srKI, ev_gDT, ev_gT, ev_tinE, ev_tiKK, ev_keysA, ev_keysN, ev_keysC, ev_dputTE, ev_dptK, ev_dispE, ev_mpN, ev_mpC, ev_pcK, ev_dsK, ev_dsK2, ev_lc2E, ev_imp, ev_simp, ev_split, ev_splF, ev_splG, ev_fmt, ev_fmtS, ev_fmtI, ev_addK, ev_js0, ev_js1, ev_joined, ev_star, ev_starK, ev_each2, ev_each2K, ev_unl, ev_unlK, ev_intS, ev_strYS, ev_strYI, ev_mjoin, ev_joinG, ev_joinK, ev_sbind, ev_miS, ev_siK, List.getElem?_cons_zero, List.getElem?_cons_succ, List.set_cons_zero, List.set_cons_succ, List.length_cons, List.length_nil, List.cons_append, List.nil_append, if_true, if_false, Bool.false_eq_true, Bool.true_eq_false, reduceIte, Bool.not_true, Bool.not_false, Bool.and_true, Bool.true_and, Bool.and_false, Bool.false_and, Bool.or_true, Bool.true_or, Bool.or_false, Bool.false_or, decide_eq_true_eq, Nat.reduceAdd, Nat.reduceLeDiff, Nat.zero_add, Int.reduceLT, Int.reduceLE, Int.reduceEq, Int.reduceNeg, Nat.reduceEqDiff, and_self, and_true, true_and, decide_true, decide_false, eq_self, ite_true, ite_false, Int.reduceSub, Int.reduceAdd, Int.cast_ofNat_Int, Int.natCast_add, Int.cast_ofNat_Int, Nat.reduceSub, Nat.add_assoc, String.reduceBEq, String.reduceEq, Bool.or_not_self, beq_self_eq_true, fileR, j0, headF]
    · have en : (((fs.map fileR).map A.tup).map headF) = (fs.map (·.1)).map A.str := by
        rw [List.map_map, List.map_map, List.map_map]
        rfl
      rw [en]
      simp only [wp_okR, wp_okF, wp_fin, wp_next, wp_then, wp_bind, wp_nox, wp_tK, wp_bK, wp_fr, wp_fn, wp_nn, wp_nr, wp_nb, wp_nc, wp_ln, wp_lc, wp_lb, wp_lr, wp_jn, wp_jc, ev_bok, ev_bno, ev_bex, ev_tok, ev_tno, ev_tex, ev_nnx, ev_nrt, ev_nbk, ev_nct, ev_nex, ev_nno, ev_frt, ev_fnx, ev_fex, ev_xok, ev_lsome, ev_lnone, ev_seq, ev_if, ev_ret, ev_retN, ev_drop, ev_nop, ev_brk, ev_cont, ev_asgN, ev_asgT, ev_asgO, ev_mgTup, ev_mgN, ev_mgC, ev_mg0, ev_putL, ev_putO, ev_var, ev_vr, ev_c, ev_op, ev_un, ev_test, ev_tb, ev_notT, ev_andT, ev_orT, ev_ifE, ev_not, ev_nb, ev_and, ev_andK, ev_or, ev_orK, ev_chain, ev_chK, ev_nil, ev_cons, ev_tup, ev_lst, ev_new, ev_call, ev_cb, ev_size, ev_addI, ev_addS, ev_addT, ev_addL, ev_catO, ev_sub, ev_mul, ev_div, ev_mod, ev_p5, ev_p6, ev_p12, ev_p18, ev_p30, ev_neg, ev_ltI, ev_ltS, ev_leI, ev_leS, ev_gt, ev_ge, ev_eqI, ev_eqS, ev_neI, ev_neS, ev_neB, ev_eqB, ev_is, ev_isnot, ev_ixT, ev_ixS, ev_ixR, ev_ixL, ev_ixK, ev_getL, ev_getM, ev_gL, ev_gM, ev_at0, ev_at1, ev_at2, ev_at3, ev_at4, ev_lenS, ev_lenR, ev_lenT, ev_lenL, ev_lenO, ev_lenD, ev_abs, ev_min2, ev_max2, ev_intI, ev_intB, ev_set, ev_fc, ev_setset, ev_last, ev_appk, ev_app0, ev_setk, ev_set0, ev_assoc, ev_lapp, ev_lappA, ev_sl, ev_nopart, ev_part, ev_ptK, ev_slT, ev_slS, ev_slR, ev_slK, ev_tyN, ev_tyB, ev_tyI, ev_tyS, ev_tyT, ev_tyL, ev_tyR, ev_tyRL, ev_isi, ev_isi1, ev_isi2, ev_isi3, ev_isi4, ev_isi5, ev_isiT, ev_isi2K, ev_isTy, ev_list, ev_listK, ev_tuple, ev_tupK, ev_getST, ev_getSR, ev_getSL, ev_all, ev_allK, ev_eqXI, ev_eqXS, ev_neXI, ev_neXS, ev_neXB, ev_eqXB, ev_eqXR, ev_neXR, ev_nil2, ev_eqK, ev_neK, ev_meth, ev_meth0, ev_mth1, ev_mth2, ev_mth3, ev_append, ev_m0, ev_m0K, ev_str, ev_for, ev_miR1, ev_rg1K, ev_miL, ev_liK, ev_miT, ev_tiK, ev_lc, ev_wipe0, ev_wipeS, ev_yes, ev_lenSet, ev_lenSetK, ev_listR, ev_lrK, ev_put2, ev_p2A, ev_p2K, ev_p2E, ev_put1, ev_pt1, ev_addXI, ev_addXB, ev_addXS, ev_addXT, ev_addXL, ev_subXI, ev_subXB, ev_mulXI, ev_mulXB, ev_mulXL, ev_negXI, ev_negXB, ev_strXI, ev_strXB, ev_mulYI, ev_mulYB, ev_mulYL, ev_mulYT, ev_dnew, ev_dnewT, ev_dgetE, ev_getD, ev_gD, ev_keyI, ev_keyS, ev_dgK, ev_dinE, ev_diK, ev_dputE, ev_dpK, ev_dget2E, ev_isDA, ev_isSome, ev_isNone, ev_dg2K, ev_dpop2E, ev_dp2K, ev_dp3S, ev_dp3N, ev_sortedE, ev_srO1, ev_srO2, ev_gLd, ev_srKS, ev_srKI, ev_gDT, ev_gT, ev_tinE, ev_tiKK, ev_keysA, ev_keysN, ev_keysC, ev_dputTE, ev_dptK, ev_dispE, ev_mpN, ev_mpC, ev_pcK, ev_dsK, ev_dsK2, ev_lc2E, ev_imp, ev_simp, ev_split, ev_splF, ev_splG, ev_fmt, ev_fmtS, ev_fmtI, ev_addK, ev_js0, ev_js1, ev_joined, ev_star, ev_starK, ev_each2, ev_each2K, ev_unl, ev_unlK, ev_intS, ev_strYS, ev_strYI, ev_mjoin, ev_joinG, ev_joinK, ev_sbind, ev_miS, ev_siK, List.getElem?_cons_zero, List.getElem?_cons_succ, List.set_cons_zero, List.set_cons_succ, List.length_cons, List.length_nil, List.cons_append, List.nil_append, if_true, if_false, Bool.false_eq_true, Bool.true_eq_false, reduceIte, Bool.not_true, Bool.not_false, Bool.and_true, Bool.true_and, Bool.and_false, Bool.false_and, Bool.or_true, Bool.true_or, Bool.or_false, Bool.false_or, decide_eq_true_eq, Nat.reduceAdd, Nat.reduceLeDiff, Nat.zero_add, Int.reduceLT, Int.reduceLE, Int.reduceEq, Int.reduceNeg, Nat.reduceEqDiff, and_self, and_true, true_and, decide_true, decide_false, eq_self, ite_true, ite_false, Int.reduceSub, Int.reduceAdd, Int.cast_ofNat_Int, Int.natCast_add, Int.cast_ofNat_Int, Nat.reduceSub, Nat.add_assoc, String.reduceBEq, String.reduceEq, Bool.or_not_self, beq_self_eq_true]
      refine okR_use (isRising_wp (ss := fs.map (·.1)) ev_last (by rw [List.length_map]; omega)) fun a s h => ?_
      obtain ⟨rfl, k2, rfl⟩ := h
      simp only [wp_okR, wp_okF, wp_fin, wp_next, wp_then, wp_bind, wp_nox, wp_tK, wp_bK, wp_fr, wp_fn, wp_nn, wp_nr, wp_nb, wp_nc, wp_ln, wp_lc, wp_lb, wp_lr, wp_jn, wp_jc, ev_bok, ev_bno, ev_bex, ev_tok, ev_tno, ev_tex, ev_nnx, ev_nrt, ev_nbk, ev_nct, ev_nex, ev_nno, ev_frt, ev_fnx, ev_fex, ev_xok, ev_lsome, ev_lnone, ev_seq, ev_if, ev_ret, ev_retN, ev_drop, ev_nop, ev_brk, ev_cont, ev_asgN, ev_asgT, ev_asgO, ev_mgTup, ev_mgN, ev_mgC, ev_mg0, ev_putL, ev_putO, ev_var, ev_vr, ev_c, ev_op, ev_un, ev_test, ev_tb, ev_notT, ev_andT, ev_orT, ev_ifE, ev_not, ev_nb, ev_and, ev_andK, ev_or, ev_orK, ev_chain, ev_chK, ev_nil, ev_cons, ev_tup, ev_lst, ev_new, ev_call, ev_cb, ev_size, ev_addI, ev_addS, ev_addT, ev_addL, ev_catO, ev_sub, ev_mul, ev_div, ev_mod, ev_p5, ev_p6, ev_p12, ev_p18, ev_p30, ev_neg, ev_ltI, ev_ltS, ev_leI, ev_leS, ev_gt, ev_ge, ev_eqI, ev_eqS, ev_neI, ev_neS, ev_neB, ev_eqB, ev_is, ev_isnot, ev_ixT, ev_ixS, ev_ixR, ev_ixL, ev_ixK, ev_getL, ev_getM, ev_gL, ev_gM, ev_at0, ev_at1, ev_at2, ev_at3, ev_at4, ev_lenS, ev_lenR, ev_lenT, ev_lenL, ev_lenO, ev_lenD, ev_abs, ev_min2, ev_max2, ev_intI, ev_intB, ev_set, ev_fc, ev_setset, ev_last, ev_appk, ev_app0, ev_setk, ev_set0, ev_assoc, ev_lapp, ev_lappA, ev_sl, ev_nopart, ev_part, ev_ptK, ev_slT, ev_slS, ev_slR, ev_slK, ev_tyN, ev_tyB, ev_tyI, ev_tyS, ev_tyT, ev_tyL, ev_tyR, ev_tyRL, ev_isi, ev_isi1, ev_isi2, ev_isi3, ev_isi4, ev_isi5, ev_isiT, ev_isi2K, ev_isTy, ev_list, ev_listK, ev_tuple, ev_tupK, ev_getST, ev_getSR, ev_getSL, ev_all, ev_allK, ev_eqXI, ev_eqXS, ev_neXI, ev_neXS, ev_neXB, ev_eqXB, ev_eqXR, ev_neXR, ev_nil2, ev_eqK, ev_neK, ev_meth, ev_meth0, ev_mth1, ev_mth2, ev_mth3, ev_append, ev_m0, ev_m0K, ev_str, ev_for, ev_miR1, ev_rg1K, ev_miL, ev_liK, ev_miT, ev_tiK, ev_lc, ev_wipe0, ev_wipeS, ev_yes, ev_lenSet, ev_lenSetK, ev_listR, ev_lrK, ev_put2, ev_p2A, ev_p2K, ev_p2E, ev_put1, ev_pt1, ev_addXI, ev_addXB, ev_addXS, ev_addXT, ev_addXL, ev_subXI, ev_subXB, ev_mulXI, ev_mulXB, ev_mulXL, ev_negXI, ev_negXB, ev_strXI, ev_strXB, ev_mulYI, ev_mulYB, ev_mulYL, ev_mulYT, ev_dnew, ev_dnewT, ev_dgetE, ev_getD, ev_gD, ev_keyI, ev_keyS, ev_dgK, ev_dinE, ev_diK, ev_dputE, ev_dpK, ev_dget2E, ev_isDA, ev_isSome, ev_isNone, ev_dg2K, ev_dpop2E, ev_dp2K, ev_dp3S, ev_dp3N, ev_sortedE, ev_srO1, ev_srO2, ev_gLd, ev_srKS, ev_srKI, ev_gDT, ev_gT, ev_tinE, ev_tiKK, ev_keysA, ev_keysN, ev_keysC, ev_dputTE, ev_dptK, ev_dispE, ev_mpN, ev_mpC, ev_pcK, ev_dsK, ev_dsK2, ev_lc2E, ev_imp, ev_simp, ev_split, ev_splF, ev_splG, ev_fmt, ev_fmtS, ev_fmtI, ev_addK, ev_js0, ev_js1, ev_joined, ev_star, ev_starK, ev_each2, ev_each2K, ev_unl, ev_unlK, ev_intS, ev_strYS, ev_strYI, ev_mjoin, ev_joinG, ev_joinK, ev_sbind, ev_miS, ev_siK, List.getElem?_cons_zero, List.getElem?_cons_succ, List.set_cons_zero, List.set_cons_succ, List.length_cons, List.length_nil, List.cons_append, List.nil_append, if_true, if_false, Bool.false_eq_true, Bool.true_eq_false, reduceIte, Bool.not_true, Bool.not_false, Bool.and_true, Bool.true_and, Bool.and_false, Bool.false_and, Bool.or_true, Bool.true_or, Bool.or_false, Bool.false_or, decide_eq_true_eq, Nat.reduceAdd, Nat.reduceLeDiff, Nat.zero_add, Int.reduceLT, Int.reduceLE, Int.reduceEq, Int.reduceNeg, Nat.reduceEqDiff, and_self, and_true, true_and, decide_true, decide_false, eq_self, ite_true, ite_false, Int.reduceSub, Int.reduceAdd, Int.cast_ofNat_Int, Int.natCast_add, Int.cast_ofNat_Int, Nat.reduceSub, Nat.add_assoc, String.reduceBEq, String.reduceEq, Bool.or_not_self, beq_self_eq_true, rise_true hn.up]
      exact ⟨_, by rw [hS1, List.append_assoc]⟩
theorem areClients_wp {S : Sto} {fs : List (Str × Int × Int)} (hn : NamesG (fs.map (·.1))) (hl : fs.length ≤ 4) (hc : ∀ q ∈ fs, 50 ≤ q.2.1 ∧ q.2.1 ≤ 200 ∧ 0 ≤ q.2.2 ∧ q.2.2 ≤ 99) : okR (m_are_clients [.tup ((fs.map cliR).map A.tup)] S) fun y t => y = .bl true ∧ ∃ l, t = S ++ l := by
  have h1 : 1 ≤ fs.length := by
    have := hn.ne
    cases fs with
    | nil => exact absurd rfl this
    | cons a r => rw [List.length_cons]; omega
  have ll : (((fs.map cliR).map A.tup).length : Nat) = fs.length := by rw [List.length_map, List.length_map]
  rw [st_are_clients]
  unfold b_are_clients
  have t2 := tuple_is (S := S) (xs := (fs.map cliR).map A.tup) (lo := 1) (hi := 4) (by rw [ll]; omega) (by rw [ll]; omega)
  simp only [wp_okR, wp_okF, wp_fin, wp_next, wp_then, wp_bind, wp_nox, wp_tK, wp_bK, wp_fr, wp_fn, wp_nn, wp_nr, wp_nb, wp_nc, wp_ln, wp_lc, wp_lb, wp_lr, wp_jn, wp_jc, ev_bok, ev_bno, ev_bex, ev_tok, ev_tno, ev_tex, ev_nnx, ev_nrt, ev_nbk, ev_nct, ev_nex, ev_nno, ev_frt, ev_fnx, ev_fex, ev_xok, ev_lsome, ev_lnone, ev_seq, ev_if, ev_ret, ev_retN, ev_drop, ev_nop, ev_brk, ev_cont, ev_asgN, ev_asgT, ev_asgO, ev_mgTup, ev_mgN, ev_mgC, ev_mg0, ev_putL, ev_putO, ev_var, ev_vr, ev_c, ev_op, ev_un, ev_test, ev_tb, ev_notT, ev_andT, ev_orT, ev_ifE, ev_not, ev_nb, ev_and, ev_andK, ev_or, ev_orK, ev_chain, ev_chK, ev_nil, ev_cons, ev_tup, ev_lst, ev_new, ev_call, ev_cb, ev_size, ev_addI, ev_addS, ev_addT, ev_addL, ev_catO, ev_sub, ev_mul, ev_div, ev_mod, ev_p5, ev_p6, ev_p12, ev_p18, ev_p30, ev_neg, ev_ltI, ev_ltS, ev_leI, ev_leS, ev_gt, ev_ge, ev_eqI, ev_eqS, ev_neI, ev_neS, ev_neB, ev_eqB, ev_is, ev_isnot, ev_ixT, ev_ixS, ev_ixR, ev_ixL, ev_ixK, ev_getL, ev_getM, ev_gL, ev_gM, ev_at0, ev_at1, ev_at2, ev_at3, ev_at4, ev_lenS, ev_lenR, ev_lenT, ev_lenL, ev_lenO, ev_lenD, ev_abs, ev_min2, ev_max2, ev_intI, ev_intB, ev_set, ev_fc, ev_setset, ev_last, ev_appk, ev_app0, ev_setk, ev_set0, ev_assoc, ev_lapp, ev_lappA, ev_sl, ev_nopart, ev_part, ev_ptK, ev_slT, ev_slS, ev_slR, ev_slK, ev_tyN, ev_tyB, ev_tyI, ev_tyS, ev_tyT, ev_tyL, ev_tyR, ev_tyRL, ev_isi, ev_isi1, ev_isi2, ev_isi3, ev_isi4, ev_isi5, ev_isiT, ev_isi2K, ev_isTy, ev_list, ev_listK, ev_tuple, ev_tupK, ev_getST, ev_getSR, ev_getSL, ev_all, ev_allK, ev_eqXI, ev_eqXS, ev_neXI, ev_neXS, ev_neXB, ev_eqXB, ev_eqXR, ev_neXR, ev_nil2, ev_eqK, ev_neK, ev_meth, ev_meth0, ev_mth1, ev_mth2, ev_mth3, ev_append, ev_m0, ev_m0K, ev_str, ev_for, ev_miR1, ev_rg1K, ev_miL, ev_liK, ev_miT, ev_tiK, ev_lc, ev_wipe0, ev_wipeS, ev_yes, ev_lenSet, ev_lenSetK, ev_listR, ev_lrK, ev_put2, ev_p2A, ev_p2K, ev_p2E, ev_put1, ev_pt1, ev_addXI, ev_addXB, ev_addXS, ev_addXT, ev_addXL, ev_subXI, ev_subXB, ev_mulXI, ev_mulXB, ev_mulXL, ev_negXI, ev_negXB, ev_strXI, ev_strXB, ev_mulYI, ev_mulYB, ev_mulYL, ev_mulYT, ev_dnew, ev_dnewT, ev_dgetE, ev_getD, ev_gD, ev_keyI, ev_keyS, ev_dgK, ev_dinE, ev_diK, ev_dputE, ev_dpK, ev_dget2E, ev_isDA, ev_isSome, ev_isNone, ev_dg2K, ev_dpop2E, ev_dp2K, ev_dp3S, ev_dp3N, ev_sortedE, ev_srO1, ev_srO2, ev_gLd, ev_srKS, ev_srKI, ev_gDT, ev_gT, ev_tinE, ev_tiKK, ev_keysA, ev_keysN, ev_keysC, ev_dputTE, ev_dptK, ev_dispE, ev_mpN, ev_mpC, ev_pcK, ev_dsK, ev_dsK2, ev_lc2E, ev_imp, ev_simp, ev_split, ev_splF, ev_splG, ev_fmt, ev_fmtS, ev_fmtI, ev_addK, ev_js0, ev_js1, ev_joined, ev_star, ev_starK, ev_each2, ev_each2K, ev_unl, ev_unlK, ev_intS, ev_strYS, ev_strYI, ev_mjoin, ev_joinG, ev_joinK, ev_sbind, ev_miS, ev_siK, List.getElem?_cons_zero, List.getElem?_cons_succ, List.set_cons_zero, List.set_cons_succ, List.length_cons, List.length_nil, List.cons_append, List.nil_append, if_true, if_false, Bool.false_eq_true, Bool.true_eq_false, reduceIte, Bool.not_true, Bool.not_false, Bool.and_true, Bool.true_and, Bool.and_false, Bool.false_and, Bool.or_true, Bool.true_or, Bool.or_false, Bool.false_or, decide_eq_true_eq, Nat.reduceAdd, Nat.reduceLeDiff, Nat.zero_add, Int.reduceLT, Int.reduceLE, Int.reduceEq, Int.reduceNeg, Nat.reduceEqDiff, and_self, and_true, true_and, decide_true, decide_false, eq_self, ite_true, ite_false, Int.reduceSub, Int.reduceAdd, Int.cast_ofNat_Int, Int.natCast_add, Int.cast_ofNat_Int, Nat.reduceSub, Nat.add_assoc, String.reduceBEq, String.reduceEq, Bool.or_not_self, beq_self_eq_true, t2]
  refine lc_M (fun _ => .bl true) (fun _ => trivial) (by rw [ll]; omega) (fun x hx => ?_) (fun l' => ?_)
  · obtain ⟨r, hr, rfl⟩ := List.mem_map.mp hx
    obtain ⟨q, hq, rfl⟩ := List.mem_map.mp hr
    have hq1 := hn.nm q.1 (List.mem_map.mpr ⟨q, hq, rfl⟩)
    have hq2 := hc q hq
    refine ⟨_, rfl, fun k => ?_⟩
    simp only [wp_okR, wp_okF, wp_fin, wp_next, wp_then, wp_bind, wp_nox, wp_tK, wp_bK, wp_fr, wp_fn, wp_nn, wp_nr, wp_nb, wp_nc, wp_ln, wp_lc, wp_lb, wp_lr, wp_jn, wp_jc, ev_bok, ev_bno, ev_bex, ev_tok, ev_tno, ev_tex, ev_nnx, ev_nrt, ev_nbk, ev_nct, ev_nex, ev_nno, ev_frt, ev_fnx, ev_fex, ev_xok, ev_lsome, ev_lnone, ev_seq, ev_if, ev_ret, ev_retN, ev_drop, ev_nop, ev_brk, ev_cont, ev_asgN, ev_asgT, ev_asgO, ev_mgTup, ev_mgN, ev_mgC, ev_mg0, ev_putL, ev_putO, ev_var, ev_vr, ev_c, ev_op, ev_un, ev_test, ev_tb, ev_notT, ev_andT, ev_orT, ev_ifE, ev_not, ev_nb, ev_and, ev_andK, ev_or, ev_orK, ev_chain, ev_chK, ev_nil, ev_cons, ev_tup, ev_lst, ev_new, ev_call, ev_cb, ev_size, ev_addI, ev_addS, ev_addT, ev_addL, ev_catO, ev_sub, ev_mul, ev_div, ev_mod, ev_p5, ev_p6, ev_p12, ev_p18, ev_p30, ev_neg, ev_ltI, ev_ltS, ev_leI, ev_leS, ev_gt, ev_ge, ev_eqI, ev_eqS, ev_neI, ev_neS, ev_neB, ev_eqB, ev_is, ev_isnot, ev_ixT, ev_ixS, ev_ixR, ev_ixL, ev_ixK, ev_getL, ev_getM, ev_gL, ev_gM, ev_at0, ev_at1, ev_at2, ev_at3, ev_at4, ev_lenS, ev_lenR, ev_lenT, ev_lenL, ev_lenO, ev_lenD, ev_abs, ev_min2, ev_max2, ev_intI, ev_intB, ev_set, ev_fc, ev_setset, ev_last, ev_appk, ev_app0, ev_setk, ev_set0, ev_assoc, ev_lapp, ev_lappA, ev_sl, ev_nopart, ev_part, ev_ptK, ev_slT, ev_slS, ev_slR, ev_slK, ev_tyN, ev_tyB, ev_tyI, ev_tyS, ev_tyT, ev_tyL, ev_tyR, ev_tyRL, ev_isi, ev_isi1, ev_isi2, ev_isi3, ev_isi4, ev_isi5, ev_isiT, ev_isi2K, ev_isTy, ev_list, ev_listK, ev_tuple, ev_tupK, ev_getST, ev_getSR, ev_getSL, ev_all, ev_allK, ev_eqXI, ev_eqXS, ev_neXI, ev_neXS, ev_neXB, ev_eqXB, ev_eqXR, ev_neXR, ev_nil2, ev_eqK, ev_neK, ev_meth, ev_meth0, ev_mth1, ev_mth2, ev_mth3, ev_append, ev_m0, ev_m0K, ev_str, ev_for, ev_miR1, ev_rg1K, ev_miL, ev_liK, ev_miT, ev_tiK, ev_lc, ev_wipe0, ev_wipeS, ev_yes, ev_lenSet, ev_lenSetK, ev_listR, ev_lrK, ev_put2, ev_p2A, ev_p2K, ev_p2E, ev_put1, ev_pt1, ev_addXI, ev_addXB, ev_addXS, ev_addXT, ev_addXL, ev_subXI, ev_subXB, ev_mulXI, ev_mulXB, ev_mulXL, ev_negXI, ev_negXB, ev_strXI, ev_strXB, ev_mulYI, ev_mulYB, ev_mulYL, ev_mulYT, ev_dnew, ev_dnewT, ev_dgetE, ev_getD, ev_gD, ev_keyI, ev_keyS, ev_dgK, ev_dinE, ev_diK, ev_dputE, ev_dpK, ev_dget2E, ev_isDA, ev_isSome, ev_isNone, ev_dg2K, ev_dpop2E, ev_dp2K, ev_dp3S, ev_dp3N, ev_sortedE, ev_srO1, ev_srO2, ev_gLd, ev_srKS, ev_srKI, ev_gDT, ev_gT, ev_tinE, ev_tiKK, ev_keysA, ev_keysN, ev_keysC, ev_dputTE, ev_dptK, ev_dispE, ev_mpN, ev_mpC, ev_pcK, ev_dsK, ev_dsK2, ev_lc2E, ev_imp, ev_simp, ev_split, ev_splF, ev_splG, ev_fmt, ev_fmtS, ev_fmtI, ev_addK, ev_js0, ev_js1, ev_joined, ev_star, ev_starK, ev_each2, ev_each2K, ev_unl, ev_unlK, ev_intS, ev_strYS, ev_strYI, ev_mjoin, ev_joinG, ev_joinK, ev_sbind, ev_miS, ev_siK, List.getElem?_cons_zero, List.getElem?_cons_succ, List.set_cons_zero, List.set_cons_succ, List.length_cons, List.length_nil, List.cons_append, List.nil_append, if_true, if_false, Bool.false_eq_true, Bool.true_eq_false, reduceIte, Bool.not_true, Bool.not_false, Bool.and_true, Bool.true_and, Bool.and_false, Bool.false_and, Bool.or_true, Bool.true_or, Bool.or_false, Bool.false_or, decide_eq_true_eq, Nat.reduceAdd, Nat.reduceLeDiff, Nat.zero_add, Int.reduceLT, Int.reduceLE, Int.reduceEq, Int.reduceNeg, Nat.reduceEqDiff, and_self, and_true, true_and, decide_true, decide_false, eq_self, ite_true, ite_false, Int.reduceSub, Int.reduceAdd, Int.cast_ofNat_Int, Int.natCast_add, Int.cast_ofNat_Int, Nat.reduceSub, Nat.add_assoc, String.reduceBEq, String.reduceEq, Bool.or_not_self, beq_self_eq_true]
    refine okR_use (isClient_wp hq1.1 hq1.2 hq2.1 hq2.2.1 hq2.2.2.1 hq2.2.2.2) fun a s h => ?_
    obtain ⟨rfl, k2, rfl⟩ := h
    exact ⟨rfl, k2, List.append_assoc _ _ _⟩
  · have lf : ∀ (a : A) (s : Sto), lift (some a) s = .ok a s := fun _ _ => rfl
    simp only [wp_okR, wp_okF, wp_fin, wp_next, wp_then, wp_bind, wp_nox, wp_tK, wp_bK, wp_fr, wp_fn, wp_nn, wp_nr, wp_nb, wp_nc, wp_ln, wp_lc, wp_lb, wp_lr, wp_jn, wp_jc, ev_bok, ev_bno, ev_bex, ev_tok, ev_tno, ev_tex, ev_nnx, ev_nrt, ev_nbk, ev_nct, ev_nex, ev_nno, ev_frt, ev_fnx, ev_fex, ev_xok, ev_lsome, ev_lnone, ev_seq, ev_if, ev_ret, ev_retN, ev_drop, ev_nop, ev_brk, ev_cont, ev_asgN, ev_asgT, ev_asgO, ev_mgTup, ev_mgN, ev_mgC, ev_mg0, ev_putL, ev_putO, ev_var, ev_vr, ev_c, ev_op, ev_un, ev_test, ev_tb, ev_notT, ev_andT, ev_orT, ev_ifE, ev_not, ev_nb, ev_and, ev_andK, ev_or, ev_orK, ev_chain, ev_chK, ev_nil, ev_cons, ev_tup, ev_lst, ev_new, ev_call, ev_cb, ev_size, ev_addI, ev_addS, ev_addT, ev_addL, ev_catO, ev_sub, ev_mul, ev_div, ev_mod, ev_p5, ev_p6, ev_p12, ev_p18, ev_p30, ev_neg, ev_ltI, ev_ltS, ev_leI, ev_leS, ev_gt, ev_ge, ev_eqI, ev_eqS, ev_neI, ev_neS, ev_neB, ev_eqB, ev_is, ev_isnot, ev_ixT, ev_ixS, ev_ixR, ev_ixL, ev_ixK, ev_getL, ev_getM, ev_gL, ev_gM, ev_at0, ev_at1, ev_at2, ev_at3, ev_at4, ev_lenS, ev_lenR, ev_lenT, ev_lenL, ev_lenO, ev_lenD, ev_abs, ev_min2, ev_max2, ev_intI, ev_intB, ev_set, ev_fc, ev_setset, ev_last, ev_appk, ev_app0, ev_setk, ev_set0, ev_assoc, ev_lapp, ev_lappA, ev_sl, ev_nopart, ev_part, ev_ptK, ev_slT, ev_slS, ev_slR, ev_slK, ev_tyN, ev_tyB, ev_tyI, ev_tyS, ev_tyT, ev_tyL, ev_tyR, ev_tyRL, ev_isi, ev_isi1, ev_isi2, ev_isi3, ev_isi4, ev_isi5, ev_isiT, ev_isi2K, ev_isTy, ev_list, ev_listK, ev_tuple, ev_tupK, ev_getST, ev_getSR, ev_getSL, ev_all, ev_allK, ev_eqXI, ev_eqXS, ev_neXI, ev_neXS, ev_neXB, ev_eqXB, ev_eqXR, ev_neXR, ev_nil2, ev_eqK, ev_neK, ev_meth, ev_meth0, ev_mth1, ev_mth2, ev_mth3, ev_append, ev_m0, ev_m0K, ev_str, ev_for, ev_miR1, ev_rg1K, ev_miL, ev_liK, ev_miT, ev_tiK, ev_lc, ev_wipe0, ev_wipeS, ev_yes, ev_lenSet, ev_lenSetK, ev_listR, ev_lrK, ev_put2, ev_p2A, ev_p2K, ev_p2E, ev_put1, ev_pt1, ev_addXI, ev_addXB, ev_addXS, ev_addXT, ev_addXL, ev_subXI, ev_subXB, ev_mulXI, ev_mulXB, ev_mulXL, ev_negXI, ev_negXB, ev_strXI, ev_strXB, ev_mulYI, ev_mulYB, ev_mulYL, ev_mulYT, ev_dnew, ev_dnewT, ev_dgetE, ev_getD, ev_gD, ev_keyI, ev_keyS, ev_dgK, ev_dinE, ev_diK, ev_dputE, ev_dpK, ev_dget2E, ev_isDA, ev_isSome, ev_isNone, ev_dg2K, ev_dpop2E, ev_dp2K, ev_dp3S, ev_dp3N, ev_sortedE, ev_srO1, ev_srO2, ev_gLd, ev_srKS, ev_srKI, ev_gDT, ev_gT, ev_tinE, ev_tiKK, ev_keysA, ev_keysN, ev_keysC, ev_dputTE, ev_dptK, ev_dispE, ev_mpN, ev_mpC, ev_pcK, ev_dsK, ev_dsK2, ev_lc2E, ev_imp, ev_simp, ev_split, ev_splF, ev_splG, ev_fmt, ev_fmtS, ev_fmtI, ev_addK, ev_js0, ev_js1, ev_joined, ev_star, ev_starK, ev_each2, ev_each2K, ev_unl, ev_unlK, ev_intS, ev_strYS, ev_strYI, ev_mjoin, ev_joinG, ev_joinK, ev_sbind, ev_miS, ev_siK, List.getElem?_cons_zero, List.getElem?_cons_succ, List.set_cons_zero, List.set_cons_succ, List.length_cons, List.length_nil, List.cons_append, List.nil_append, if_true, if_false, Bool.false_eq_true, Bool.true_eq_false, reduceIte, Bool.not_true, Bool.not_false, Bool.and_true, Bool.true_and, Bool.and_false, Bool.false_and, Bool.or_true, Bool.true_or, Bool.or_false, Bool.false_or, decide_eq_true_eq, Nat.reduceAdd, Nat.reduceLeDiff, Nat.zero_add, Int.reduceLT, Int.reduceLE, Int.reduceEq, Int.reduceNeg, Nat.reduceEqDiff, and_self, and_true, true_and, decide_true, decide_false, eq_self, ite_true, ite_false, Int.reduceSub, Int.reduceAdd, Int.cast_ofNat_Int, Int.natCast_add, Int.cast_ofNat_Int, Nat.reduceSub, Nat.add_assoc, String.reduceBEq, String.reduceEq, Bool.or_not_self, beq_self_eq_true, bls_true, Option.map_some, all_true, lf]
    obtain ⟨S1, hS1⟩ : ∃ S1, S1 = S ++ AO.lst (((fs.map cliR).map A.tup).map fun _ => A.bl true) :: l' := ⟨_, rfl⟩
    have z1 : S.length + (l'.length + 1) = S1.length := by rw [hS1, List.length_append]; rfl
    have es : S ++ AO.lst (((fs.map cliR).map A.tup).map fun _ => A.bl true) :: (l' ++ [AO.lst []]) = S1 ++ [AO.lst []] := by
      rw [hS1, List.append_assoc]
      rfl
    rw [es, z1]
    refine lc_P headF (fun _ => trivial) (by rw [ll]; omega) (fun x hx => ?_) ?_
    · obtain ⟨r, hr, rfl⟩ := List.mem_map.mp hx
      obtain ⟨q, hq, rfl⟩ := List.mem_map.mp hr
      refine ⟨_, rfl, fun k => ?_⟩
      have j0 : ∀ a b c : A, atI [a, b, c] 0 = some a := fun _ _ _ => rfl
      simp only [wp_okR, wp_okF, wp_fin, wp_next, wp_then, wp_bind, wp_nox, wp_tK, wp_bK, wp_fr, wp_fn, wp_nn, wp_nr, wp_nb, wp_nc, wp_ln, wp_lc, wp_lb, wp_lr, wp_jn, wp_jc, ev_bok, ev_bno, ev_bex, ev_tok, ev_tno, ev_tex, ev_nnx, ev_nrt, ev_nbk, ev_nct, ev_nex, ev_nno, ev_frt, ev_fnx, ev_fex, ev_xok, ev_lsome, ev_lnone, ev_seq, ev_if, ev_ret, ev_retN, ev_drop, ev_nop, ev_brk, ev_cont, ev_asgN, ev_asgT, ev_asgO, ev_mgTup, ev_mgN, ev_mgC, ev_mg0, ev_putL, ev_putO, ev_var, ev_vr, ev_c, ev_op, ev_un, ev_test, ev_tb, ev_notT, ev_andT, ev_orT, ev_ifE, ev_not, ev_nb, ev_and, ev_andK, ev_or, ev_orK, ev_chain, ev_chK, ev_nil, ev_cons, ev_tup, ev_lst, ev_new, ev_call, ev_cb, ev_size, ev_addI, ev_addS, ev_addT, ev_addL, ev_catO, ev_sub, ev_mul, ev_div, ev_mod, ev_p5, ev_p6, ev_p12, ev_p18, ev_p30, ev_neg, ev_ltI, ev_ltS, ev_leI, ev_leS, ev_gt, ev_ge, ev_eqI, ev_eqS, ev_neI, ev_neS, ev_neB, ev_eqB, ev_is, ev_isnot, ev_ixT, ev_ixS, ev_ixR, ev_ixL, ev_ixK, ev_getL, ev_getM, ev_gL, ev_gM, ev_at0, ev_at1, ev_at2, ev_at3, ev_at4, ev_lenS, ev_lenR, ev_lenT, ev_lenL, ev_lenO, ev_lenD, ev_abs, ev_min2, ev_max2, ev_intI, ev_intB, ev_set, ev_fc, ev_setset, ev_last, ev_appk, ev_app0, ev_setk, ev_set0, ev_assoc, ev_lapp, ev_lappA, ev_sl, ev_nopart, ev_part, ev_ptK, ev_slT, ev_slS, ev_slR, ev_slK, ev_tyN, ev_tyB, ev_tyI, ev_tyS, ev_tyT, ev_tyL, ev_tyR, ev_tyRL, ev_isi, ev_isi1, ev_isi2, ev_isi3, ev_isi4, ev_isi5, ev_isiT, ev_isi2K, ev_isTy, ev_list, ev_listK, ev_tuple, ev_tupK, ev_getST, ev_getSR, ev_getSL, ev_all, ev_allK, ev_eqXI, ev_eqXS, ev_neXI, ev_neXS, ev_neXB, ev_eqXB, ev_eqXR, ev_neXR, ev_nil2, ev_eqK, ev_neK, ev_meth, ev_meth0, ev_mth1, ev_mth2, ev_mth3, ev_append, ev_m0, ev_m0K, ev_str, ev_for, ev_miR1, ev_rg1K, ev_miL, ev_liK, ev_miT, ev_tiK, ev_lc, ev_wipe0, ev_wipeS, ev_yes, ev_lenSet, ev_lenSetK, ev_listR, ev_lrK, ev_put2, ev_p2A, ev_p2K, ev_p2E, ev_put1, ev_pt1, ev_addXI, ev_addXB, ev_addXS, ev_addXT, ev_addXL, ev_subXI, ev_subXB, ev_mulXI, ev_mulXB, ev_mulXL, ev_negXI, ev_negXB, ev_strXI, ev_strXB, ev_mulYI, ev_mulYB, ev_mulYL, ev_mulYT, ev_dnew, ev_dnewT, ev_dgetE, ev_getD, ev_gD, ev_keyI, ev_keyS, ev_dgK, ev_dinE, ev_diK, ev_dputE, ev_dpK, ev_dget2E, ev_isDA, ev_isSome, ev_isNone, ev_dg2K, ev_dpop2E, ev_dp2K, ev_dp3S, ev_dp3N, ev_sortedE, ev_srO1, ev_srO2, ev_gLd, ev_srKS, ev_srKI, ev_gDT, ev_gT, ev_tinE, ev_tiKK, ev_keysA, ev_keysN, ev_keysC, ev_dputTE, ev_dptK, ev_dispE, ev_mpN, ev_mpC, ev_pcK, ev_dsK, ev_dsK2, ev_lc2E, ev_imp, ev_simp, ev_split, ev_splF, ev_splG, ev_fmt, ev_fmtS, ev_fmtI, ev_addK, ev_js0, ev_js1, ev_joined, ev_star, ev_starK, ev_each2, ev_each2K, ev_unl, ev_unlK, ev_intS, ev_strYS, ev_strYI, ev_mjoin, ev_joinG, ev_joinK, ev_sbind, ev_miS, ev_siK, List.getElem?_cons_zero, List.getElem?_cons_succ, List.set_cons_zero, List.set_cons_succ, List.length_cons, List.length_nil, List.cons_append, List.nil_append, if_true, if_false, Bool.false_eq_true, Bool.true_eq_false, reduceIte, Bool.not_true, Bool.not_false, Bool.and_true, Bool.true_and, Bool.and_false, Bool.false_and, Bool.or_true, Bool.true_or, Bool.or_false, Bool.false_or, decide_eq_true_eq, Nat.reduceAdd, Nat.reduceLeDiff, Nat.zero_add, Int.reduceLT, Int.reduceLE, Int.reduceEq, Int.reduceNeg, Nat.reduceEqDiff, and_self, and_true, true_and, decide_true, decide_false, eq_self, ite_true, ite_false, Int.reduceSub, Int.reduceAdd, Int.cast_ofNat_Int, Int.natCast_add, Int.cast_ofNat_Int, Nat.reduceSub, Nat.add_assoc, String.reduceBEq, String.reduceEq, Bool.or_not_self, beq_self_eq_true, cliR, j0, headF]
    · have en : (((fs.map cliR).map A.tup).map headF) = (fs.map (·.1)).map A.str := by
        rw [List.map_map, List.map_map, List.map_map]
        rfl
      rw [en]
      simp only [wp_okR, wp_okF, wp_fin, wp_next, wp_then, wp_bind, wp_nox, wp_tK, wp_bK, wp_fr, wp_fn, wp_nn, wp_nr, wp_nb, wp_nc, wp_ln, wp_lc, wp_lb, wp_lr, wp_jn, wp_jc, ev_bok, ev_bno, ev_bex, ev_tok, ev_tno, ev_tex, ev_nnx, ev_nrt, ev_nbk, ev_nct, ev_nex, ev_nno, ev_frt, ev_fnx, ev_fex, ev_xok, ev_lsome, ev_lnone, ev_seq, ev_if, ev_ret, ev_retN, ev_drop, ev_nop, ev_brk, ev_cont, ev_asgN, ev_asgT, ev_asgO, ev_mgTup, ev_mgN, ev_mgC, ev_mg0, ev_putL, ev_putO, ev_var, ev_vr, ev_c, ev_op, ev_un, ev_test, ev_tb, ev_notT, ev_andT, ev_orT, ev_ifE, ev_not, ev_nb, ev_and, ev_andK, ev_or, ev_orK, ev_chain, ev_chK, ev_nil, ev_cons, ev_tup, ev_lst, ev_new, ev_call, ev_cb, ev_size, ev_addI, ev_addS, ev_addT, ev_addL, ev_catO, ev_sub, ev_mul, ev_div, ev_mod, ev_p5, ev_p6, ev_p12, ev_p18, ev_p30, ev_neg, ev_ltI, ev_ltS, ev_leI, ev_leS, ev_gt, ev_ge, ev_eqI, ev_eqS, ev_neI, ev_neS, ev_neB, ev_eqB, ev_is, ev_isnot, ev_ixT, ev_ixS, ev_ixR, ev_ixL, ev_ixK, ev_getL, ev_getM, ev_gL, ev_gM, ev_at0, ev_at1, ev_at2, ev_at3, ev_at4, ev_lenS, ev_lenR, ev_lenT, ev_lenL, ev_lenO, ev_lenD, ev_abs, ev_min2, ev_max2, ev_intI, ev_intB, ev_set, ev_fc, ev_setset, ev_last, ev_appk, ev_app0, ev_setk, ev_set0, ev_assoc, ev_lapp, ev_lappA, ev_sl, ev_nopart, ev_part, ev_ptK, ev_slT, ev_slS, ev_slR, ev_slK, ev_tyN, ev_tyB, ev_tyI, ev_tyS, ev_tyT, ev_tyL, ev_tyR, ev_tyRL, ev_isi, ev_isi1, ev_isi2, ev_isi3, ev_isi4, ev_isi5, ev_isiT, ev_isi2K, ev_isTy, ev_list, ev_listK, ev_tuple, ev_tupK, ev_getST, ev_getSR, ev_getSL, ev_all, ev_allK, ev_eqXI, ev_eqXS, ev_neXI, ev_neXS, ev_neXB, ev_eqXB, ev_eqXR, ev_neXR, ev_nil2, ev_eqK, ev_neK, ev_meth, ev_meth0, ev_mth1, ev_mth2, ev_mth3, ev_append, ev_m0, ev_m0K, ev_str, ev_for, ev_miR1, ev_rg1K, ev_miL, ev_liK, ev_miT, ev_tiK, ev_lc, ev_wipe0, ev_wipeS, ev_yes, ev_lenSet, ev_lenSetK, ev_listR, ev_lrK, ev_put2, ev_p2A, ev_p2K, ev_p2E, ev_put1, ev_pt1, ev_addXI, ev_addXB, ev_addXS, ev_addXT, ev_addXL, ev_subXI, ev_subXB, ev_mulXI, ev_mulXB, ev_mulXL, ev_negXI, ev_negXB, ev_strXI, ev_strXB, ev_mulYI, ev_mulYB, ev_mulYL, ev_mulYT, ev_dnew, ev_dnewT, ev_dgetE, ev_getD, ev_gD, ev_keyI, ev_keyS, ev_dgK, ev_dinE, ev_diK, ev_dputE, ev_dpK, ev_dget2E, ev_isDA, ev_isSome, ev_isNone, ev_dg2K, ev_dpop2E, ev_dp2K, ev_dp3S, ev_dp3N, ev_sortedE, ev_srO1, ev_srO2, ev_gLd, ev_srKS, ev_srKI, ev_gDT, ev_gT, ev_tinE, ev_tiKK, ev_keysA, ev_keysN, ev_keysC, ev_dputTE, ev_dptK, ev_dispE, ev_mpN, ev_mpC, ev_pcK, ev_dsK, ev_dsK2, ev_lc2E, ev_imp, ev_simp, ev_split, ev_splF, ev_splG, ev_fmt, ev_fmtS, ev_fmtI, ev_addK, ev_js0, ev_js1, ev_joined, ev_star, ev_starK, ev_each2, ev_each2K, ev_unl, ev_unlK, ev_intS, ev_strYS, ev_strYI, ev_mjoin, ev_joinG, ev_joinK, ev_sbind, ev_miS, ev_siK, List.getElem?_cons_zero, List.getElem?_cons_succ, List.set_cons_zero, List.set_cons_succ, List.length_cons, List.length_nil, List.cons_append, List.nil_append, if_true, if_false, Bool.false_eq_true, Bool.true_eq_false, reduceIte, Bool.not_true, Bool.not_false, Bool.and_true, Bool.true_and, Bool.and_false, Bool.false_and, Bool.or_true, Bool.true_or, Bool.or_false, Bool.false_or, decide_eq_true_eq, Nat.reduceAdd, Nat.reduceLeDiff, Nat.zero_add, Int.reduceLT, Int.reduceLE, Int.reduceEq, Int.reduceNeg, Nat.reduceEqDiff, and_self, and_true, true_and, decide_true, decide_false, eq_self, ite_true, ite_false, Int.reduceSub, Int.reduceAdd, Int.cast_ofNat_Int, Int.natCast_add, Int.cast_ofNat_Int, Nat.reduceSub, Nat.add_assoc, String.reduceBEq, String.reduceEq, Bool.or_not_self, beq_self_eq_true]
      refine okR_use (isRising_wp (ss := fs.map (·.1)) ev_last (by rw [List.length_map]; omega)) fun a s h => ?_
      obtain ⟨rfl, k2, rfl⟩ := h
      simp only [wp_okR, wp_okF, wp_fin, wp_next, wp_then, wp_bind, wp_nox, wp_tK, wp_bK, wp_fr, wp_fn, wp_nn, wp_nr, wp_nb, wp_nc, wp_ln, wp_lc, wp_lb, wp_lr, wp_jn, wp_jc, ev_bok, ev_bno, ev_bex, ev_tok, ev_tno, ev_tex, ev_nnx, ev_nrt, ev_nbk, ev_nct, ev_nex, ev_nno, ev_frt, ev_fnx, ev_fex, ev_xok, ev_lsome, ev_lnone, ev_seq, ev_if, ev_ret, ev_retN, ev_drop, ev_nop, ev_brk, ev_cont, ev_asgN, ev_asgT, ev_asgO, ev_mgTup, ev_mgN, ev_mgC, ev_mg0, ev_putL, ev_putO, ev_var, ev_vr, ev_c, ev_op, ev_un, ev_test, ev_tb, ev_notT, ev_andT, ev_orT, ev_ifE, ev_not, ev_nb, ev_and, ev_andK, ev_or, ev_orK, ev_chain, ev_chK, ev_nil, ev_cons, ev_tup, ev_lst, ev_new, ev_call, ev_cb, ev_size, ev_addI, ev_addS, ev_addT, ev_addL, ev_catO, ev_sub, ev_mul, ev_div, ev_mod, ev_p5, ev_p6, ev_p12, ev_p18, ev_p30, ev_neg, ev_ltI, ev_ltS, ev_leI, ev_leS, ev_gt, ev_ge, ev_eqI, ev_eqS, ev_neI, ev_neS, ev_neB, ev_eqB, ev_is, ev_isnot, ev_ixT, ev_ixS, ev_ixR, ev_ixL, ev_ixK, ev_getL, ev_getM, ev_gL, ev_gM, ev_at0, ev_at1, ev_at2, ev_at3, ev_at4, ev_lenS, ev_lenR, ev_lenT, ev_lenL, ev_lenO, ev_lenD, ev_abs, ev_min2, ev_max2, ev_intI, ev_intB, ev_set, ev_fc, ev_setset, ev_last, ev_appk, ev_app0, ev_setk, ev_set0, ev_assoc, ev_lapp, ev_lappA, ev_sl, ev_nopart, ev_part, ev_ptK, ev_slT, ev_slS, ev_slR, ev_slK, ev_tyN, ev_tyB, ev_tyI, ev_tyS, ev_tyT, ev_tyL, ev_tyR, ev_tyRL, ev_isi, ev_isi1, ev_isi2, ev_isi3, ev_isi4, ev_isi5, ev_isiT, ev_isi2K, ev_isTy, ev_list, ev_listK, ev_tuple, ev_tupK, ev_getST, ev_getSR, ev_getSL, ev_all, ev_allK, ev_eqXI, ev_eqXS, ev_neXI, ev_neXS, ev_neXB, ev_eqXB, ev_eqXR, ev_neXR, ev_nil2, ev_eqK, ev_neK, ev_meth, ev_meth0, ev_mth1, ev_mth2, ev_mth3, ev_append, ev_m0, ev_m0K, ev_str, ev_for, ev_miR1, ev_rg1K, ev_miL, ev_liK, ev_miT, ev_tiK, ev_lc, ev_wipe0, ev_wipeS, ev_yes, ev_lenSet, ev_lenSetK, ev_listR, ev_lrK, ev_put2, ev_p2A, ev_p2K, ev_p2E, ev_put1, ev_pt1, ev_addXI, ev_addXB, ev_addXS, ev_addXT, ev_addXL, ev_subXI, ev_subXB, ev_mulXI, ev_mulXB, ev_mulXL, ev_negXI, ev_negXB, ev_strXI, ev_strXB, ev_mulYI, ev_mulYB, ev_mulYL, ev_mulYT, ev_dnew, ev_dnewT, ev_dgetE, ev_getD, ev_gD, ev_keyI, ev_keyS, ev_dgK, ev_dinE, ev_diK, ev_dputE, ev_dpK, ev_dget2E, ev_isDA, ev_isSome, ev_isNone, ev_dg2K, ev_dpop2E, ev_dp2K, ev_dp3S, ev_dp3N, ev_sortedE, ev_srO1, ev_srO2, ev_gLd, ev_srKS, ev_srKI, ev_gDT, ev_gT, ev_tinE, ev_tiKK, ev_keysA, ev_keysN, ev_keysC, ev_dputTE, ev_dptK, ev_dispE, ev_mpN, ev_mpC, ev_pcK, ev_dsK, ev_dsK2, ev_lc2E, ev_imp, ev_simp, ev_split, ev_splF, ev_splG, ev_fmt, ev_fmtS, ev_fmtI, ev_addK, ev_js0, ev_js1, ev_joined, ev_star, ev_starK, ev_each2, ev_each2K, ev_unl, ev_unlK, ev_intS, ev_strYS, ev_strYI, ev_mjoin, ev_joinG, ev_joinK, ev_sbind, ev_miS, ev_siK, List.getElem?_cons_zero, List.getElem?_cons_succ, List.set_cons_zero, List.set_cons_succ, List.length_cons, List.length_nil, List.cons_append, List.nil_append, if_true, if_false, Bool.false_eq_true, Bool.true_eq_false, reduceIte, Bool.not_true, Bool.not_false, Bool.and_true, Bool.true_and, Bool.and_false, Bool.false_and, Bool.or_true, Bool.true_or, Bool.or_false, Bool.false_or, decide_eq_true_eq, Nat.reduceAdd, Nat.reduceLeDiff, Nat.zero_add, Int.reduceLT, Int.reduceLE, Int.reduceEq, Int.reduceNeg, Nat.reduceEqDiff, and_self, and_true, true_and, decide_true, decide_false, eq_self, ite_true, ite_false, Int.reduceSub, Int.reduceAdd, Int.cast_ofNat_Int, Int.natCast_add, Int.cast_ofNat_Int, Nat.reduceSub, Nat.add_assoc, String.reduceBEq, String.reduceEq, Bool.or_not_self, beq_self_eq_true, rise_true hn.up]
      exact ⟨_, by rw [hS1, List.append_assoc]⟩
theorem isSetup_wp {S : Sto} {fs : List (Str × Int)} {cs : List (Str × Int × Int)} {l d : Int} (h : SetG fs cs l d) : okR (m_is_setup [setA fs cs l d] S) fun y t => y = .bl true ∧ ∃ l, t = S ++ l := by
  rw [setA_is, st_is_setup]
  unfold b_is_setup
  have t2 := tuple_is (S := S) (xs := [.tup ((fs.map fileR).map A.tup), .tup ((cs.map cliR).map A.tup), .int l, .int d]) (lo := 4) (hi := 4) (Int.le_refl 4) (Int.le_refl 4)
  simp only [wp_okR, wp_okF, wp_fin, wp_next, wp_then, wp_bind, wp_nox, wp_tK, wp_bK, wp_fr, wp_fn, wp_nn, wp_nr, wp_nb, wp_nc, wp_ln, wp_lc, wp_lb, wp_lr, wp_jn, wp_jc, ev_bok, ev_bno, ev_bex, ev_tok, ev_tno, ev_tex, ev_nnx, ev_nrt, ev_nbk, ev_nct, ev_nex, ev_nno, ev_frt, ev_fnx, ev_fex, ev_xok, ev_lsome, ev_lnone, ev_seq, ev_if, ev_ret, ev_retN, ev_drop, ev_nop, ev_brk, ev_cont, ev_asgN, ev_asgT, ev_asgO, ev_mgTup, ev_mgN, ev_mgC, ev_mg0, ev_putL, ev_putO, ev_var, ev_vr, ev_c, ev_op, ev_un, ev_test, ev_tb, ev_notT, ev_andT, ev_orT, ev_ifE, ev_not, ev_nb, ev_and, ev_andK, ev_or, ev_orK, ev_chain, ev_chK, ev_nil, ev_cons, ev_tup, ev_lst, ev_new, ev_call, ev_cb, ev_size, ev_addI, ev_addS, ev_addT, ev_addL, ev_catO, ev_sub, ev_mul, ev_div, ev_mod, ev_p5, ev_p6, ev_p12, ev_p18, ev_p30, ev_neg, ev_ltI, ev_ltS, ev_leI, ev_leS, ev_gt, ev_ge, ev_eqI, ev_eqS, ev_neI, ev_neS, ev_neB, ev_eqB, ev_is, ev_isnot, ev_ixT, ev_ixS, ev_ixR, ev_ixL, ev_ixK, ev_getL, ev_getM, ev_gL, ev_gM, ev_at0, ev_at1, ev_at2, ev_at3, ev_at4, ev_lenS, ev_lenR, ev_lenT, ev_lenL, ev_lenO, ev_lenD, ev_abs, ev_min2, ev_max2, ev_intI, ev_intB, ev_set, ev_fc, ev_setset, ev_last, ev_appk, ev_app0, ev_setk, ev_set0, ev_assoc, ev_lapp, ev_lappA, ev_sl, ev_nopart, ev_part, ev_ptK, ev_slT, ev_slS, ev_slR, ev_slK, ev_tyN, ev_tyB, ev_tyI, ev_tyS, ev_tyT, ev_tyL, ev_tyR, ev_tyRL, ev_isi, ev_isi1, ev_isi2, ev_isi3, ev_isi4, ev_isi5, ev_isiT, ev_isi2K, ev_isTy, ev_list, ev_listK, ev_tuple, ev_tupK, ev_getST, ev_getSR, ev_getSL, ev_all, ev_allK, ev_eqXI, ev_eqXS, ev_neXI, ev_neXS, ev_neXB, ev_eqXB, ev_eqXR, ev_neXR, ev_nil2, ev_eqK, ev_neK, ev_meth, ev_meth0, ev_mth1, ev_mth2, ev_mth3, ev_append, ev_m0, ev_m0K, ev_str, ev_for, ev_miR1, ev_rg1K, ev_miL, ev_liK, ev_miT, ev_tiK, ev_lc, ev_wipe0, ev_wipeS, ev_yes, ev_lenSet, ev_lenSetK, ev_listR, ev_lrK, ev_put2, ev_p2A, ev_p2K, ev_p2E, ev_put1, ev_pt1, ev_addXI, ev_addXB, ev_addXS, ev_addXT, ev_addXL, ev_subXI, ev_subXB, ev_mulXI, ev_mulXB, ev_mulXL, ev_negXI, ev_negXB, ev_strXI, ev_strXB, ev_mulYI, ev_mulYB, ev_mulYL, ev_mulYT, ev_dnew, ev_dnewT, ev_dgetE, ev_getD, ev_gD, ev_keyI, ev_keyS, ev_dgK, ev_dinE, ev_diK, ev_dputE, ev_dpK, ev_dget2E, ev_isDA, ev_isSome, ev_isNone, ev_dg2K, ev_dpop2E, ev_dp2K, ev_dp3S, ev_dp3N, ev_sortedE, ev_srO1, ev_srO2, ev_gLd, ev_srKS, ev_srKI, ev_gDT, ev_gT, ev_tinE, ev_tiKK, ev_keysA, ev_keysN, ev_keysC, ev_dputTE, ev_dptK, ev_dispE, ev_mpN, ev_mpC, ev_pcK, ev_dsK, ev_dsK2, ev_lc2E, ev_imp, ev_simp, ev_split, ev_splF, ev_splG, ev_fmt, ev_fmtS, ev_fmtI, ev_addK, ev_js0, ev_js1, ev_joined, ev_star, ev_starK, ev_each2, ev_each2K, ev_unl, ev_unlK, ev_intS, ev_strYS, ev_strYI, ev_mjoin, ev_joinG, ev_joinK, ev_sbind, ev_miS, ev_siK, List.getElem?_cons_zero, List.getElem?_cons_succ, List.set_cons_zero, List.set_cons_succ, List.length_cons, List.length_nil, List.cons_append, List.nil_append, if_true, if_false, Bool.false_eq_true, Bool.true_eq_false, reduceIte, Bool.not_true, Bool.not_false, Bool.and_true, Bool.true_and, Bool.and_false, Bool.false_and, Bool.or_true, Bool.true_or, Bool.or_false, Bool.false_or, decide_eq_true_eq, Nat.reduceAdd, Nat.reduceLeDiff, Nat.zero_add, Int.reduceLT, Int.reduceLE, Int.reduceEq, Int.reduceNeg, Nat.reduceEqDiff, and_self, and_true, true_and, decide_true, decide_false, eq_self, ite_true, ite_false, Int.reduceSub, Int.reduceAdd, Int.cast_ofNat_Int, Int.natCast_add, Int.cast_ofNat_Int, Nat.reduceSub, Nat.add_assoc, String.reduceBEq, String.reduceEq, Bool.or_not_self, beq_self_eq_true, t2]
  refine okR_use (areFiles_wp h.fn h.f3 h.fp) fun a s hh => ?_
  obtain ⟨rfl, k1, rfl⟩ := hh
  simp only [wp_okR, wp_okF, wp_fin, wp_next, wp_then, wp_bind, wp_nox, wp_tK, wp_bK, wp_fr, wp_fn, wp_nn, wp_nr, wp_nb, wp_nc, wp_ln, wp_lc, wp_lb, wp_lr, wp_jn, wp_jc, ev_bok, ev_bno, ev_bex, ev_tok, ev_tno, ev_tex, ev_nnx, ev_nrt, ev_nbk, ev_nct, ev_nex, ev_nno, ev_frt, ev_fnx, ev_fex, ev_xok, ev_lsome, ev_lnone, ev_seq, ev_if, ev_ret, ev_retN, ev_drop, ev_nop, ev_brk, ev_cont, ev_asgN, ev_asgT, ev_asgO, ev_mgTup, ev_mgN, ev_mgC, ev_mg0, ev_putL, ev_putO, ev_var, ev_vr, ev_c, ev_op, ev_un, ev_test, ev_tb, ev_notT, ev_andT, ev_orT, ev_ifE, ev_not, ev_nb, ev_and, ev_andK, ev_or, ev_orK, ev_chain, ev_chK, ev_nil, ev_cons, ev_tup, ev_lst, ev_new, ev_call, ev_cb, ev_size, ev_addI, ev_addS, ev_addT, ev_addL, ev_catO, ev_sub, ev_mul, ev_div, ev_mod, ev_p5, ev_p6, ev_p12, ev_p18, ev_p30, ev_neg, ev_ltI, ev_ltS, ev_leI, ev_leS, ev_gt, ev_ge, ev_eqI, ev_eqS, ev_neI, ev_neS, ev_neB, ev_eqB, ev_is, ev_isnot, ev_ixT, ev_ixS, ev_ixR, ev_ixL, ev_ixK, ev_getL, ev_getM, ev_gL, ev_gM, ev_at0, ev_at1, ev_at2, ev_at3, ev_at4, ev_lenS, ev_lenR, ev_lenT, ev_lenL, ev_lenO, ev_lenD, ev_abs, ev_min2, ev_max2, ev_intI, ev_intB, ev_set, ev_fc, ev_setset, ev_last, ev_appk, ev_app0, ev_setk, ev_set0, ev_assoc, ev_lapp, ev_lappA, ev_sl, ev_nopart, ev_part, ev_ptK, ev_slT, ev_slS, ev_slR, ev_slK, ev_tyN, ev_tyB, ev_tyI, ev_tyS, ev_tyT, ev_tyL, ev_tyR, ev_tyRL, ev_isi, ev_isi1, ev_isi2, ev_isi3, ev_isi4, ev_isi5, ev_isiT, ev_isi2K, ev_isTy, ev_list, ev_listK, ev_tuple, ev_tupK, ev_getST, ev_getSR, ev_getSL, ev_all, ev_allK, ev_eqXI, ev_eqXS, ev_neXI, ev_neXS, ev_neXB, ev_eqXB, ev_eqXR, ev_neXR, ev_nil2, ev_eqK, ev_neK, ev_meth, ev_meth0, ev_mth1, ev_mth2, ev_mth3, ev_append, ev_m0, ev_m0K, ev_str, ev_for, ev_miR1, ev_rg1K, ev_miL, ev_liK, ev_miT, ev_tiK, ev_lc, ev_wipe0, ev_wipeS, ev_yes, ev_lenSet, ev_lenSetK, ev_listR, ev_lrK, ev_put2, ev_p2A, ev_p2K, ev_p2E, ev_put1, ev_pt1, ev_addXI, ev_addXB, ev_addXS, ev_addXT, ev_addXL, ev_subXI, ev_subXB, ev_mulXI, ev_mulXB, ev_mulXL, ev_negXI, ev_negXB, ev_strXI, ev_strXB, ev_mulYI, ev_mulYB, ev_mulYL, ev_mulYT, ev_dnew, ev_dnewT, ev_dgetE, ev_getD, ev_gD, ev_keyI, ev_keyS, ev_dgK, ev_dinE, ev_diK, ev_dputE, ev_dpK, ev_dget2E, ev_isDA, ev_isSome, ev_isNone, ev_dg2K, ev_dpop2E, ev_dp2K, ev_dp3S, ev_dp3N, ev_sortedE, ev_srO1, ev_srO2, ev_gLd, ev_srKS, ev_srKI, ev_gDT, ev_gT, ev_tinE, ev_tiKK, ev_keysA, ev_keysN, ev_keysC, ev_dputTE, ev_dptK, ev_dispE, ev_mpN, ev_mpC, ev_pcK, ev_dsK, ev_dsK2, ev_lc2E, ev_imp, ev_simp, ev_split, ev_splF, ev_splG, ev_fmt, ev_fmtS, ev_fmtI, ev_addK, ev_js0, ev_js1, ev_joined, ev_star, ev_starK, ev_each2, ev_each2K, ev_unl, ev_unlK, ev_intS, ev_strYS, ev_strYI, ev_mjoin, ev_joinG, ev_joinK, ev_sbind, ev_miS, ev_siK, List.getElem?_cons_zero, List.getElem?_cons_succ, List.set_cons_zero, List.set_cons_succ, List.length_cons, List.length_nil, List.cons_append, List.nil_append, if_true, if_false, Bool.false_eq_true, Bool.true_eq_false, reduceIte, Bool.not_true, Bool.not_false, Bool.and_true, Bool.true_and, Bool.and_false, Bool.false_and, Bool.or_true, Bool.true_or, Bool.or_false, Bool.false_or, decide_eq_true_eq, Nat.reduceAdd, Nat.reduceLeDiff, Nat.zero_add, Int.reduceLT, Int.reduceLE, Int.reduceEq, Int.reduceNeg, Nat.reduceEqDiff, and_self, and_true, true_and, decide_true, decide_false, eq_self, ite_true, ite_false, Int.reduceSub, Int.reduceAdd, Int.cast_ofNat_Int, Int.natCast_add, Int.cast_ofNat_Int, Nat.reduceSub, Nat.add_assoc, String.reduceBEq, String.reduceEq, Bool.or_not_self, beq_self_eq_true]
  refine okR_use (areClients_wp h.cn h.c4 h.cr) fun a s hh => ?_
  obtain ⟨rfl, k2, rfl⟩ := hh
  have w1 := fun S => within_is (S := S) h.l2 h.lm
  have w2 := fun S => within_is (S := S) h.d0 h.dm
  simp only [wp_okR, wp_okF, wp_fin, wp_next, wp_then, wp_bind, wp_nox, wp_tK, wp_bK, wp_fr, wp_fn, wp_nn, wp_nr, wp_nb, wp_nc, wp_ln, wp_lc, wp_lb, wp_lr, wp_jn, wp_jc, ev_bok, ev_bno, ev_bex, ev_tok, ev_tno, ev_tex, ev_nnx, ev_nrt, ev_nbk, ev_nct, ev_nex, ev_nno, ev_frt, ev_fnx, ev_fex, ev_xok, ev_lsome, ev_lnone, ev_seq, ev_if, ev_ret, ev_retN, ev_drop, ev_nop, ev_brk, ev_cont, ev_asgN, ev_asgT, ev_asgO, ev_mgTup, ev_mgN, ev_mgC, ev_mg0, ev_putL, ev_putO, ev_var, ev_vr, ev_c, ev_op, ev_un, ev_test, ev_tb, ev_notT, ev_andT, ev_orT, ev_ifE, ev_not, ev_nb, ev_and, ev_andK, ev_or, ev_orK, ev_chain, ev_chK, ev_nil, ev_cons, ev_tup, ev_lst, ev_new, ev_call, ev_cb, ev_size, ev_addI, ev_addS, ev_addT, ev_addL, ev_catO, ev_sub, ev_mul, ev_div, ev_mod, ev_p5, ev_p6, ev_p12, ev_p18, ev_p30, ev_neg, ev_ltI, ev_ltS, ev_leI, ev_leS, ev_gt, ev_ge, ev_eqI, ev_eqS, ev_neI, ev_neS, ev_neB, ev_eqB, ev_is, ev_isnot, ev_ixT, ev_ixS, ev_ixR, ev_ixL, ev_ixK, ev_getL, ev_getM, ev_gL, ev_gM, ev_at0, ev_at1, ev_at2, ev_at3, ev_at4, ev_lenS, ev_lenR, ev_lenT, ev_lenL, ev_lenO, ev_lenD, ev_abs, ev_min2, ev_max2, ev_intI, ev_intB, ev_set, ev_fc, ev_setset, ev_last, ev_appk, ev_app0, ev_setk, ev_set0, ev_assoc, ev_lapp, ev_lappA, ev_sl, ev_nopart, ev_part, ev_ptK, ev_slT, ev_slS, ev_slR, ev_slK, ev_tyN, ev_tyB, ev_tyI, ev_tyS, ev_tyT, ev_tyL, ev_tyR, ev_tyRL, ev_isi, ev_isi1, ev_isi2, ev_isi3, ev_isi4, ev_isi5, ev_isiT, ev_isi2K, ev_isTy, ev_list, ev_listK, ev_tuple, ev_tupK, ev_getST, ev_getSR, ev_getSL, ev_all, ev_allK, ev_eqXI, ev_eqXS, ev_neXI, ev_neXS, ev_neXB, ev_eqXB, ev_eqXR, ev_neXR, ev_nil2, ev_eqK, ev_neK, ev_meth, ev_meth0, ev_mth1, ev_mth2, ev_mth3, ev_append, ev_m0, ev_m0K, ev_str, ev_for, ev_miR1, ev_rg1K, ev_miL, ev_liK, ev_miT, ev_tiK, ev_lc, ev_wipe0, ev_wipeS, ev_yes, ev_lenSet, ev_lenSetK, ev_listR, ev_lrK, ev_put2, ev_p2A, ev_p2K, ev_p2E, ev_put1, ev_pt1, ev_addXI, ev_addXB, ev_addXS, ev_addXT, ev_addXL, ev_subXI, ev_subXB, ev_mulXI, ev_mulXB, ev_mulXL, ev_negXI, ev_negXB, ev_strXI, ev_strXB, ev_mulYI, ev_mulYB, ev_mulYL, ev_mulYT, ev_dnew, ev_dnewT, ev_dgetE, ev_getD, ev_gD, ev_keyI, ev_keyS, ev_dgK, ev_dinE, ev_diK, ev_dputE, ev_dpK, ev_dget2E, ev_isDA, ev_isSome, ev_isNone, ev_dg2K, ev_dpop2E, ev_dp2K, ev_dp3S, ev_dp3N, ev_sortedE, ev_srO1, ev_srO2, ev_gLd, ev_srKS, ev_srKI, ev_gDT, ev_gT, ev_tinE, ev_tiKK, ev_keysA, ev_keysN, ev_keysC, ev_dputTE, ev_dptK, ev_dispE, ev_mpN, ev_mpC, ev_pcK, ev_dsK, ev_dsK2, ev_lc2E, ev_imp, ev_simp, ev_split, ev_splF, ev_splG, ev_fmt, ev_fmtS, ev_fmtI, ev_addK, ev_js0, ev_js1, ev_joined, ev_star, ev_starK, ev_each2, ev_each2K, ev_unl, ev_unlK, ev_intS, ev_strYS, ev_strYI, ev_mjoin, ev_joinG, ev_joinK, ev_sbind, ev_miS, ev_siK, List.getElem?_cons_zero, List.getElem?_cons_succ, List.set_cons_zero, List.set_cons_succ, List.length_cons, List.length_nil, List.cons_append, List.nil_append, if_true, if_false, Bool.false_eq_true, Bool.true_eq_false, reduceIte, Bool.not_true, Bool.not_false, Bool.and_true, Bool.true_and, Bool.and_false, Bool.false_and, Bool.or_true, Bool.true_or, Bool.or_false, Bool.false_or, decide_eq_true_eq, Nat.reduceAdd, Nat.reduceLeDiff, Nat.zero_add, Int.reduceLT, Int.reduceLE, Int.reduceEq, Int.reduceNeg, Nat.reduceEqDiff, and_self, and_true, true_and, decide_true, decide_false, eq_self, ite_true, ite_false, Int.reduceSub, Int.reduceAdd, Int.cast_ofNat_Int, Int.natCast_add, Int.cast_ofNat_Int, Nat.reduceSub, Nat.add_assoc, String.reduceBEq, String.reduceEq, Bool.or_not_self, beq_self_eq_true, w1, w2]
  exact ⟨_, rfl⟩

/-! ### words, numbers and tuples of them: what is equal -/
def pu0 (a : A) : Prop := (∃ x, a = .str x ∧ asc x = true ∧ x.length ≤ 64) ∨ ∃ i : Int, a = .int i ∧ i.natAbs < 2 ^ 100
def pu : Nat → A → Prop
  | 0, a => pu0 a
  | k + 1, a => pu0 a ∨ ∃ xs, a = .tup xs ∧ xs.length ≤ 70 ∧ ∀ x ∈ xs, pu k x
theorem pu_gs {a : A} (h : pu0 a) : gs 0 a := by
  rcases h with ⟨x, rfl, h1, h2⟩ | ⟨i, rfl, h⟩
  · exact gs_word h1 h2
  · exact gs_num h
theorem pu_gd {S : Sto} {E : Nat → Prop} : ∀ {k : Nat} {a : A}, pu k a → gd S E 0 k a
  | 0, a, h => gd_s (pu_gs h)
  | k + 1, a, h => by
    rcases h with h | ⟨xs, rfl, h1, h2⟩
    · exact gd_s (pu_gs h)
    · exact gd_tup h1 fun x hx => pu_gd (h2 x hx)
theorem dat_s {st : Sto} {n : Nat} {x : Str} : dat st n (.str x) = some (.str x) := by cases n <;> rfl
theorem dat_i {st : Sto} {n : Nat} {i : Int} : dat st n (.int i) = some (.int i) := by cases n <;> rfl
theorem dat_t {st : Sto} {n : Nat} {xs : List A} : dat st (n + 1) (.tup xs) = (allD (dat st n) xs).map .tuple := rfl
theorem allD_inj {f : A → Option PyData} : ∀ {xs ys : List A} {Ds Es : List PyData}, (∀ x ∈ xs, ∀ y ∈ ys, ∀ D E, f x = some D → f y = some E → PyData.eqv D E = true → x = y) → allD f xs = some Ds → allD f ys = some Es → PyData.eqvAll Ds Es = true → xs = ys
  | [], [], _, _, _, _, _, _ => rfl
  | [], y :: ys, Ds, Es, _, h1, h2, h3 => by
    simp only [allD] at h1 h2
    cases h1
    cases e1 : f y with
    | none => simp [e1] at h2
    | some E =>
      cases e2 : allD f ys with
      | none => simp [e1, e2] at h2
      | some Fs =>
        simp [e1, e2] at h2
        subst h2
        simp [PyData.eqvAll] at h3
  | x :: xs, [], Ds, Es, _, h1, h2, h3 => by
    simp only [allD] at h1 h2
    cases h2
    cases e1 : f x with
    | none => simp [e1] at h1
    | some E =>
      cases e2 : allD f xs with
      | none => simp [e1, e2] at h1
      | some Fs =>
        simp [e1, e2] at h1
        subst h1
        simp [PyData.eqvAll] at h3
  | x :: xs, y :: ys, Ds, Es, hh, h1, h2, h3 => by
    simp only [allD] at h1 h2
    cases e1 : f x with
    | none => simp [e1] at h1
    | some D =>
      cases e2 : allD f xs with
      | none => simp [e1, e2] at h1
      | some Fs =>
        cases e3 : f y with
        | none => simp [e3] at h2
        | some E =>
          cases e4 : allD f ys with
          | none => simp [e3, e4] at h2
          | some Gs =>
            simp [e1, e2] at h1
            simp [e3, e4] at h2
            subst h1
            subst h2
            rw [PyData.eqvAll, Bool.and_eq_true] at h3
            rw [hh x List.mem_cons_self y List.mem_cons_self D E e1 e3 h3.1, allD_inj (fun x hx y hy => hh x (List.mem_cons_of_mem _ hx) y (List.mem_cons_of_mem _ hy)) e2 e4 h3.2]
theorem pu0_inj {st : Sto} {n : Nat} {a b : A} {D E : PyData} (ha : pu0 a) (hb : pu0 b) (h1 : dat st n a = some D) (h2 : dat st n b = some E) (h : PyData.eqv D E = true) : a = b := by
  rcases ha with ⟨x, rfl, _⟩ | ⟨i, rfl, _⟩ <;> rcases hb with ⟨y, rfl, _⟩ | ⟨j, rfl, _⟩ <;> simp only [dat_s, dat_i, Option.some.injEq] at h1 h2 <;> subst h1 <;> subst h2 <;> simp [PyData.eqv] at h ⊢ <;> exact h
theorem pu0_tup {st : Sto} {n : Nat} {a : A} {xs : List A} {D E : PyData} (ha : pu0 a) (h1 : dat st (n + 1) a = some D) (h2 : dat st (n + 1) (.tup xs) = some E) : PyData.eqv D E = false ∧ PyData.eqv E D = false := by
  rw [dat_t] at h2
  obtain ⟨Es, _, rfl⟩ := Option.map_eq_some_iff.mp h2
  rcases ha with ⟨x, rfl, _⟩ | ⟨i, rfl, _⟩ <;> simp only [dat_s, dat_i, Option.some.injEq] at h1 <;> subst h1 <;> exact ⟨rfl, rfl⟩
theorem pu_inj {st : Sto} : ∀ {k n : Nat} {a b : A} {D E : PyData}, k ≤ n → pu k a → pu k b → dat st n a = some D → dat st n b = some E → PyData.eqv D E = true → a = b
  | 0, n, a, b, D, E, _, ha, hb, h1, h2, h => pu0_inj ha hb h1 h2 h
  | k + 1, 0, _, _, _, _, hk, _, _, _, _, _ => by omega
  | k + 1, n + 1, a, b, D, E, hk, ha, hb, h1, h2, h => by
    rcases ha with ha | ⟨xs, rfl, _, hx⟩ <;> rcases hb with hb | ⟨ys, rfl, _, hy⟩
    · exact pu0_inj ha hb h1 h2 h
    · rw [(pu0_tup ha h1 h2).1] at h
      cases h
    · rw [(pu0_tup hb h2 h1).2] at h
      cases h
    · rw [dat_t] at h1 h2
      obtain ⟨Ds, e1, rfl⟩ := Option.map_eq_some_iff.mp h1
      obtain ⟨Es, e2, rfl⟩ := Option.map_eq_some_iff.mp h2
      rw [PyData.eqv] at h
      rw [allD_inj (fun x hx' y hy' D E f1 f2 f3 => pu_inj (k := k) (n := n) (by omega) (hx x hx') (hy y hy') f1 f2 f3) e1 e2 h]
theorem eq_pu {st : Sto} {xs ys : List A} {k : Nat} (hk : k ≤ 30) (ha : pu k (.tup xs)) (hb : pu k (.tup ys)) : oEqX (.tup xs) (.tup ys) st = .ok (.bl (open Classical in decide (xs = ys))) st ∧ oNeX (.tup xs) (.tup ys) st = .ok (.bl (!(open Classical in decide (xs = ys)))) st := by
  obtain ⟨D, e1, l1, p1⟩ := gd_dat k 30 hk (pu_gd (S := st) (E := fun _ => False) ha)
  obtain ⟨E, e2, l2, p2⟩ := gd_dat k 30 hk (pu_gd (S := st) (E := fun _ => False) hb)
  have s1 := shaped_of l1 (by omega)
  have s2 := shaped_of l2 (by omega)
  have e : PyData.eqv D E = (open Classical in decide (xs = ys)) := by
    by_cases h : xs = ys
    · subst h
      rw [e1] at e2
      cases e2
      rw [PySem.SeqAt.eqv_refl D l1]
      simp
    · cases hq : PyData.eqv D E with
      | false => simp [h]
      | true =>
        have := pu_inj hk ha hb e1 e2 hq
        cases this
        exact absurd rfl h
  have q : eqA st (.tup xs) (.tup ys) = some (open Classical in decide (xs = ys)) := by
    unfold eqA
    show (match dat st deep (.tup xs), dat st deep (.tup ys) with
      | some d, some e => if SeqAt.shaped d = true ∧ SeqAt.shaped e = true then some (PyData.eqv d e) else none
      | _, _ => none) = _
    have e1' : dat st deep (.tup xs) = some D := e1
    have e2' : dat st deep (.tup ys) = some E := e2
    simp only [e1', e2', s1, s2, and_self, if_true, e]
  constructor
  · show lift ((eqA st (.tup xs) (.tup ys)).map A.bl) st = _
    rw [q]
    rfl
  · show lift ((eqA st (.tup xs) (.tup ys)).map fun c => A.bl (!c)) st = _
    rw [q]
    rfl

/-! ### a setup, read from its text -/
def fQ (q : Str × Int) : Str × List Int := (q.1, [q.2])
def cQ (q : Str × Int × Int) : Str × List Int := (q.1, [q.2.1, q.2.2])
theorem fQ_is (fs : List (Str × Int)) : fs.map fileR = (fs.map fQ).map rowQ := by
  rw [List.map_map]
  rfl
theorem cQ_is (cs : List (Str × Int × Int)) : cs.map cliR = (cs.map cQ).map rowQ := by
  rw [List.map_map]
  rfl
theorem qs_good {fs : List (Str × Int)} {cs : List (Str × Int × Int)} {l d : Int} (h : SetG fs cs l d) : QsG (fs.map fQ) ∧ QsG (cs.map cQ) := by
  have f3 := h.f3
  have c4 := h.c4
  constructor
  · refine ⟨fun e => h.fn.ne (by rw [List.map_eq_nil_iff.mp e]; rfl), by rw [List.length_map]; omega, fun q hq => ?_, fun q hq i hi => ?_, fun q hq => ?_⟩
    · obtain ⟨p, hp, rfl⟩ := List.mem_map.mp hq
      exact (h.fn.nm p.1 (List.mem_map.mpr ⟨p, hp, rfl⟩)).1
    · obtain ⟨p, hp, rfl⟩ := List.mem_map.mp hq
      have := h.fp p hp
      simp only [fQ, List.mem_cons, List.not_mem_nil, or_false] at hi
      subst hi
      exact ⟨by omega, by omega⟩
    · obtain ⟨p, hp, rfl⟩ := List.mem_map.mp hq
      exact Nat.le_of_ble_eq_true rfl
  · refine ⟨fun e => h.cn.ne (by rw [List.map_eq_nil_iff.mp e]; rfl), by rw [List.length_map]; omega, fun q hq => ?_, fun q hq i hi => ?_, fun q hq => ?_⟩
    · obtain ⟨p, hp, rfl⟩ := List.mem_map.mp hq
      exact (h.cn.nm p.1 (List.mem_map.mpr ⟨p, hp, rfl⟩)).1
    · obtain ⟨p, hp, rfl⟩ := List.mem_map.mp hq
      have := h.cr p hp
      simp only [cQ, List.mem_cons, List.not_mem_nil, or_false] at hi
      rcases hi with rfl | rfl
      · exact ⟨by omega, by omega⟩
      · exact ⟨by omega, by omega⟩
    · obtain ⟨p, hp, rfl⟩ := List.mem_map.mp hq
      exact Nat.le_of_ble_eq_true rfl
theorem set_split {fs : List (Str × Int)} {cs : List (Str × Int × Int)} {l d : Int} (h : SetG fs cs l d) : Txt.split (setT fs cs l d) (Str.ofString " ") = [Str.ofString "files", rowsT (fs.map fileR), Str.ofString "clients", rowsT (cs.map cliR), Str.ofString "length", nS l, Str.ofString "drift", nS d] := by
  obtain ⟨q1, q2⟩ := qs_good h
  have ll := h.lm
  have l2 := h.l2
  have d0 := h.d0
  have dm := h.dm
  have e1 : 32 ∉ (Str.ofString "files").cps.toList := by decide +kernel
  have e2 : 32 ∉ (Str.ofString "clients").cps.toList := by decide +kernel
  have e3 : 32 ∉ (Str.ofString "length").cps.toList := by decide +kernel
  have e4 : 32 ∉ (Str.ofString "drift").cps.toList := by decide +kernel
  have e5 : 32 ∉ (rowsT (fs.map fileR)).cps.toList := by rw [fQ_is]; exact rows_free q1
  have e6 : 32 ∉ (rowsT (cs.map cliR)).cps.toList := by rw [cQ_is]; exact rows_free q2
  have e7 : 32 ∉ (nS l).cps.toList := num_free ⟨by omega, by omega⟩ (by decide)
  have e8 : 32 ∉ (nS d).cps.toList := num_free ⟨by omega, by omega⟩ (by decide)
  unfold setT textG
  rw [lit_blank]
  refine split_join (fun e => by cases e) fun x hx => ?_
  simp only [List.mem_cons, List.not_mem_nil, or_false] at hx
  rcases hx with rfl | rfl | rfl | rfl | rfl | rfl | rfl | rfl <;> assumption
theorem pu_up {k : Nat} : ∀ {a : A}, pu0 a → pu k a := fun h => by
  cases k with
  | zero => exact h
  | succ k => exact .inl h
theorem pu_word {k : Nat} {x : Str} (h : asc x = true) (h2 : x.length ≤ 64) : pu k (.str x) := pu_up (.inl ⟨x, rfl, h, h2⟩)
theorem pu_num {k : Nat} {i : Int} (h0 : 0 ≤ i) (h1 : i ≤ 1000) : pu k (.int i) := pu_up (.inr ⟨i, rfl, Nat.lt_of_le_of_lt (show i.natAbs ≤ 1000 by omega) (by decide +kernel)⟩)
theorem pu_name {k : Nat} {x : Str} (h : nameP x) : pu k (.str x) := pu_word (asc_mem.mpr fun c hc => by have := h.2.2 c hc; omega) (by have := h.2.1; omega)
theorem pu_set {fs : List (Str × Int)} {cs : List (Str × Int × Int)} {l d : Int} (h : SetG fs cs l d) : pu 3 (setA fs cs l d) := by
  have ll := h.lm
  have l2 := h.l2
  have d0 := h.d0
  have dm := h.dm
  have f3 := h.f3
  have c4 := h.c4
  rw [setA_is]
  refine .inr ⟨_, rfl, Nat.le_of_ble_eq_true rfl, fun x hx => ?_⟩
  simp only [List.mem_cons, List.not_mem_nil, or_false] at hx
  rcases hx with rfl | rfl | rfl | rfl
  · refine .inr ⟨_, rfl, by rw [List.length_map, List.length_map]; omega, fun x hx => ?_⟩
    obtain ⟨r, hr, rfl⟩ := List.mem_map.mp hx
    obtain ⟨q, hq, rfl⟩ := List.mem_map.mp hr
    have hp := h.fp q hq
    refine .inr ⟨_, rfl, Nat.le_of_ble_eq_true rfl, fun x hx => ?_⟩
    simp only [fileR, List.mem_cons, List.not_mem_nil, or_false] at hx
    rcases hx with rfl | rfl
    · exact pu_name (h.fn.nm q.1 (List.mem_map.mpr ⟨q, hq, rfl⟩)).1
    · exact pu_num (by omega) (by omega)
  · refine .inr ⟨_, rfl, by rw [List.length_map, List.length_map]; omega, fun x hx => ?_⟩
    obtain ⟨r, hr, rfl⟩ := List.mem_map.mp hx
    obtain ⟨q, hq, rfl⟩ := List.mem_map.mp hr
    have hp := h.cr q hq
    refine .inr ⟨_, rfl, Nat.le_of_ble_eq_true rfl, fun x hx => ?_⟩
    simp only [cliR, List.mem_cons, List.not_mem_nil, or_false] at hx
    rcases hx with rfl | rfl | rfl
    · exact pu_name (h.cn.nm q.1 (List.mem_map.mpr ⟨q, hq, rfl⟩)).1
    · exact pu_num (by omega) (by omega)
    · exact pu_num (by omega) (by omega)
  · exact pu_num (by omega) (by omega)
  · exact pu_num (by omega) (by omega)
theorem heads_is {T : Sto} : oNeX (.tup [.str (Str.ofString "files"), .str (Str.ofString "clients"), .str (Str.ofString "length"), .str (Str.ofString "drift")]) (.tup [.str (Str.ofString "files"), .str (Str.ofString "clients"), .str (Str.ofString "length"), .str (Str.ofString "drift")]) T = .ok (.bl false) T := by
  have h : pu 1 (.tup [.str (Str.ofString "files"), .str (Str.ofString "clients"), .str (Str.ofString "length"), .str (Str.ofString "drift")]) := by
    refine .inr ⟨_, rfl, Nat.le_of_ble_eq_true rfl, fun x hx => ?_⟩
    simp only [List.mem_cons, List.not_mem_nil, or_false] at hx
    rcases hx with rfl | rfl | rfl | rfl
    · exact pu_word (by decide +kernel) (by decide +kernel)
    · exact pu_word (by decide +kernel) (by decide +kernel)
    · exact pu_word (by decide +kernel) (by decide +kernel)
    · exact pu_word (by decide +kernel) (by decide +kernel)
  rw [(eq_pu (by decide) h h).2]
  simp
theorem setupOf_wp {S : Sto} {fs : List (Str × Int)} {cs : List (Str × Int × Int)} {l d : Int} (h : SetG fs cs l d) : okR (m_setup_of [.str (setT fs cs l d)] S) fun y t => y = setA fs cs l d ∧ ∃ l, t = S ++ l := by
  obtain ⟨q1, q2⟩ := qs_good h
  have L := setT_len h
  have ll := h.lm
  have l2 := h.l2
  have d0 := h.d0
  have dm := h.dm
  have e := set_split h
  have u1 : (setT fs cs l d).length + 2 ≤ 16777216 := by omega
  have u2 : ((Str.ofString " ").length == 0) = false := by decide +kernel
  have p1 : ∀ a b c d e f g h : A, pick2 [a, b, c, d, e, f, g, h] none = some [a, c, e, g] := fun _ _ _ _ _ _ _ _ => rfl
  have p2 : ∀ a b c d e f g h : A, pick2 [a, b, c, d, e, f, g, h] (some 1) = some [b, d, f, h] := fun _ _ _ _ _ _ _ _ => rfl
  have r1 := fun S => rows_wp (S := S) q1
  have r2 := fun S => rows_wp (S := S) q2
  simp only [← fQ_is] at r1
  simp only [← cQ_is] at r2
  rw [st_setup_of]
  unfold b_setup_of
  simp only [wp_okR, wp_okF, wp_fin, wp_next, wp_then, wp_bind, wp_nox, wp_tK, wp_bK, wp_fr, wp_fn, wp_nn, wp_nr, wp_nb, wp_nc, wp_ln, wp_lc, wp_lb, wp_lr, wp_jn, wp_jc, ev_bok, ev_bno, ev_bex, ev_tok, ev_tno, ev_tex, ev_nnx, ev_nrt, ev_nbk, ev_nct, ev_nex, ev_nno, ev_frt, ev_fnx, ev_fex, ev_xok, ev_lsome, ev_lnone, ev_seq, ev_if, ev_ret, ev_retN, ev_drop, ev_nop, ev_brk, ev_cont, ev_asgN, ev_asgT, ev_asgO, ev_mgTup, ev_mgN, ev_mgC, ev_mg0, ev_putL, ev_putO, ev_var, ev_vr, ev_c, ev_op, ev_un, ev_test, ev_tb, ev_notT, ev_andT, ev_orT, ev_ifE, ev_not, ev_nb, ev_and, ev_andK, ev_or, ev_orK, ev_chain, ev_chK, ev_nil, ev_cons, ev_tup, ev_lst, ev_new, ev_call, ev_cb, ev_size, ev_addI, ev_addS, ev_addT, ev_addL, ev_catO, ev_sub, ev_mul, ev_div, ev_mod, ev_p5, ev_p6, ev_p12, ev_p18, ev_p30, ev_neg, ev_ltI, ev_ltS, ev_leI, ev_leS, ev_gt, ev_ge, ev_eqI, ev_eqS, ev_neI, ev_neS, ev_neB, ev_eqB, ev_is, ev_isnot, ev_ixT, ev_ixS, ev_ixR, ev_ixL, ev_ixK, ev_getL, ev_getM, ev_gL, ev_gM, ev_at0, ev_at1, ev_at2, ev_at3, ev_at4, ev_lenS, ev_lenR, ev_lenT, ev_lenL, ev_lenO, ev_lenD, ev_abs, ev_min2, ev_max2, ev_intI, ev_intB, ev_set, ev_fc, ev_setset, ev_last, ev_appk, ev_app0, ev_setk, ev_set0, ev_assoc, ev_lapp, ev_lappA, ev_sl, ev_nopart, ev_part, ev_ptK, ev_slT, ev_slS, ev_slR, ev_slK, ev_tyN, ev_tyB, ev_tyI, ev_tyS, ev_tyT, ev_tyL, ev_tyR, ev_tyRL, ev_isi, ev_isi1, ev_isi2, ev_isi3, ev_isi4, ev_isi5, ev_isiT, ev_isi2K, ev_isTy, ev_list, ev_listK, ev_tuple, ev_tupK, ev_getST, ev_getSR, ev_getSL, ev_all, ev_allK, ev_eqXI, ev_eqXS, ev_neXI, ev_neXS, ev_neXB, ev_eqXB, ev_eqXR, ev_neXR, ev_nil2, ev_eqK, ev_neK, ev_meth, ev_meth0, ev_mth1, ev_mth2, ev_mth3, ev_append, ev_m0, ev_m0K, ev_str, ev_for, ev_miR1, ev_rg1K, ev_miL, ev_liK, ev_miT, ev_tiK, ev_lc, ev_wipe0, ev_wipeS, ev_yes, ev_lenSet, ev_lenSetK, ev_listR, ev_lrK, ev_put2, ev_p2A, ev_p2K, ev_p2E, ev_put1, ev_pt1, ev_addXI, ev_addXB, ev_addXS, ev_addXT, ev_addXL, ev_subXI, ev_subXB, ev_mulXI, ev_mulXB, ev_mulXL, ev_negXI, ev_negXB, ev_strXI, ev_strXB, ev_mulYI, ev_mulYB, ev_mulYL, ev_mulYT, ev_dnew, ev_dnewT, ev_dgetE, ev_getD, ev_gD, ev_keyI, ev_keyS, ev_dgK, ev_dinE, ev_diK, ev_dputE, ev_dpK, ev_dget2E, ev_isDA, ev_isSome, ev_isNone, ev_dg2K, ev_dpop2E, ev_dp2K, ev_dp3S, ev_dp3N, ev_sortedE, ev_srO1, ev_srO2, ev_gLd, ev_srKS, ev_srKI, ev_gDT, ev_gT, ev_tinE, ev_tiKK, ev_keysA, ev_keysN, ev_keysC, ev_dputTE, ev_dptK, ev_dispE, ev_mpN, ev_mpC, ev_pcK, ev_dsK, ev_dsK2, ev_lc2E, ev_imp, ev_simp, ev_split, ev_splF, ev_splG, ev_fmt, ev_fmtS, ev_fmtI, ev_addK, ev_js0, ev_js1, ev_joined, ev_star, ev_starK, ev_each2, ev_each2K, ev_unl, ev_unlK, ev_intS, ev_strYS, ev_strYI, ev_mjoin, ev_joinG, ev_joinK, ev_sbind, ev_miS, ev_siK, List.getElem?_cons_zero, List.getElem?_cons_succ, List.set_cons_zero, List.set_cons_succ, List.length_cons, List.length_nil, List.cons_append, List.nil_append, if_true, if_false, Bool.false_eq_true, Bool.true_eq_false, reduceIte, Bool.not_true, Bool.not_false, Bool.and_true, Bool.true_and, Bool.and_false, Bool.false_and, Bool.or_true, Bool.true_or, Bool.or_false, Bool.false_or, decide_eq_true_eq, Nat.reduceAdd, Nat.reduceLeDiff, Nat.zero_add, Int.reduceLT, Int.reduceLE, Int.reduceEq, Int.reduceNeg, Nat.reduceEqDiff, and_self, and_true, true_and, decide_true, decide_false, eq_self, ite_true, ite_false, Int.reduceSub, Int.reduceAdd, Int.cast_ofNat_Int, Int.natCast_add, Int.cast_ofNat_Int, Nat.reduceSub, Nat.add_assoc, String.reduceBEq, String.reduceEq, Bool.or_not_self, beq_self_eq_true, u1, u2, e, List.map_cons, List.map_nil, p1, p2, heads_is]
  refine okR_use (r1 _) fun a s hh => ?_
  obtain ⟨rfl, k1, rfl⟩ := hh
  simp only [wp_okR, wp_okF, wp_fin, wp_next, wp_then, wp_bind, wp_nox, wp_tK, wp_bK, wp_fr, wp_fn, wp_nn, wp_nr, wp_nb, wp_nc, wp_ln, wp_lc, wp_lb, wp_lr, wp_jn, wp_jc, ev_bok, ev_bno, ev_bex, ev_tok, ev_tno, ev_tex, ev_nnx, ev_nrt, ev_nbk, ev_nct, ev_nex, ev_nno, ev_frt, ev_fnx, ev_fex, ev_xok, ev_lsome, ev_lnone, ev_seq, ev_if, ev_ret, ev_retN, ev_drop, ev_nop, ev_brk, ev_cont, ev_asgN, ev_asgT, ev_asgO, ev_mgTup, ev_mgN, ev_mgC, ev_mg0, ev_putL, ev_putO, ev_var, ev_vr, ev_c, ev_op, ev_un, ev_test, ev_tb, ev_notT, ev_andT, ev_orT, ev_ifE, ev_not, ev_nb, ev_and, ev_andK, ev_or, ev_orK, ev_chain, ev_chK, ev_nil, ev_cons, ev_tup, ev_lst, ev_new, ev_call, ev_cb, ev_size, ev_addI, ev_addS, ev_addT, ev_addL, ev_catO, ev_sub, ev_mul, ev_div, ev_mod, ev_p5, ev_p6, ev_p12, ev_p18, ev_p30, ev_neg, ev_ltI, ev_ltS, ev_leI, ev_leS, ev_gt, ev_ge, ev_eqI, ev_eqS, ev_neI, ev_neS, ev_neB, ev_eqB, ev_is, ev_isnot, ev_ixT, ev_ixS, ev_ixR, ev_ixL, ev_ixK, ev_getL, ev_getM, ev_gL, ev_gM, ev_at0, ev_at1, ev_at2, ev_at3, ev_at4, ev_lenS, ev_lenR, ev_lenT, ev_lenL, ev_lenO, ev_lenD, ev_abs, ev_min2, ev_max2, ev_intI, ev_intB, ev_set, ev_fc, ev_setset, ev_last, ev_appk, ev_app0, ev_setk, ev_set0, ev_assoc, ev_lapp, ev_lappA, ev_sl, ev_nopart, ev_part, ev_ptK, ev_slT, ev_slS, ev_slR, ev_slK, ev_tyN, ev_tyB, ev_tyI, ev_tyS, ev_tyT, ev_tyL, ev_tyR, ev_tyRL, ev_isi, ev_isi1, ev_isi2, ev_isi3, ev_isi4, ev_isi5, ev_isiT, ev_isi2K, ev_isTy, ev_list, ev_listK, ev_tuple, ev_tupK, ev_getST, ev_getSR, ev_getSL, ev_all, ev_allK, ev_eqXI, ev_eqXS, ev_neXI, ev_neXS, ev_neXB, ev_eqXB, ev_eqXR, ev_neXR, ev_nil2, ev_eqK, ev_neK, ev_meth, ev_meth0, ev_mth1, ev_mth2, ev_mth3, ev_append, ev_m0, ev_m0K, ev_str, ev_for, ev_miR1, ev_rg1K, ev_miL, ev_liK, ev_miT, ev_tiK, ev_lc, ev_wipe0, ev_wipeS, ev_yes, ev_lenSet, ev_lenSetK, ev_listR, ev_lrK, ev_put2, ev_p2A, ev_p2K, ev_p2E, ev_put1, ev_pt1, ev_addXI, ev_addXB, ev_addXS, ev_addXT, ev_addXL, ev_subXI, ev_subXB, ev_mulXI, ev_mulXB, ev_mulXL, ev_negXI, ev_negXB, ev_strXI, ev_strXB, ev_mulYI, ev_mulYB, ev_mulYL, ev_mulYT, ev_dnew, ev_dnewT, ev_dgetE, ev_getD, ev_gD, ev_keyI, ev_keyS, ev_dgK, ev_dinE, ev_diK, ev_dputE, ev_dpK, ev_dget2E, ev_isDA, ev_isSome, ev_isNone, ev_dg2K, ev_dpop2E, ev_dp2K, ev_dp3S, ev_dp3N, ev_sortedE, ev_srO1, ev_srO2, ev_gLd, ev_srKS, ev_srKI, ev_gDT, ev_gT, ev_tinE, ev_tiKK, ev_keysA, ev_keysN, ev_keysC, ev_dputTE, ev_dptK, ev_dispE, ev_mpN, ev_mpC, ev_pcK, ev_dsK, ev_dsK2, ev_lc2E, ev_imp, ev_simp, ev_split, ev_splF, ev_splG, ev_fmt, ev_fmtS, ev_fmtI, ev_addK, ev_js0, ev_js1, ev_joined, ev_star, ev_starK, ev_each2, ev_each2K, ev_unl, ev_unlK, ev_intS, ev_strYS, ev_strYI, ev_mjoin, ev_joinG, ev_joinK, ev_sbind, ev_miS, ev_siK, List.getElem?_cons_zero, List.getElem?_cons_succ, List.set_cons_zero, List.set_cons_succ, List.length_cons, List.length_nil, List.cons_append, List.nil_append, if_true, if_false, Bool.false_eq_true, Bool.true_eq_false, reduceIte, Bool.not_true, Bool.not_false, Bool.and_true, Bool.true_and, Bool.and_false, Bool.false_and, Bool.or_true, Bool.true_or, Bool.or_false, Bool.false_or, decide_eq_true_eq, Nat.reduceAdd, Nat.reduceLeDiff, Nat.zero_add, Int.reduceLT, Int.reduceLE, Int.reduceEq, Int.reduceNeg, Nat.reduceEqDiff, and_self, and_true, true_and, decide_true, decide_false, eq_self, ite_true, ite_false, Int.reduceSub, Int.reduceAdd, Int.cast_ofNat_Int, Int.natCast_add, Int.cast_ofNat_Int, Nat.reduceSub, Nat.add_assoc, String.reduceBEq, String.reduceEq, Bool.or_not_self, beq_self_eq_true]
  refine okR_use (r2 _) fun a s hh => ?_
  obtain ⟨rfl, k2, rfl⟩ := hh
  simp only [wp_okR, wp_okF, wp_fin, wp_next, wp_then, wp_bind, wp_nox, wp_tK, wp_bK, wp_fr, wp_fn, wp_nn, wp_nr, wp_nb, wp_nc, wp_ln, wp_lc, wp_lb, wp_lr, wp_jn, wp_jc, ev_bok, ev_bno, ev_bex, ev_tok, ev_tno, ev_tex, ev_nnx, ev_nrt, ev_nbk, ev_nct, ev_nex, ev_nno, ev_frt, ev_fnx, ev_fex, ev_xok, ev_lsome, ev_lnone, ev_seq, ev_if, ev_ret, ev_retN, ev_drop, ev_nop, ev_brk, ev_cont, ev_asgN, ev_asgT, ev_asgO, ev_mgTup, ev_mgN, ev_mgC, ev_mg0, ev_putL, ev_putO, ev_var, ev_vr, ev_c, ev_op, ev_un, ev_test, ev_tb, ev_notT, ev_andT, ev_orT, ev_ifE, ev_not, ev_nb, ev_and, ev_andK, ev_or, ev_orK, ev_chain, ev_chK, ev_nil, ev_cons, ev_tup, ev_lst, ev_new, ev_call, ev_cb, ev_size, ev_addI, ev_addS, ev_addT, ev_addL, ev_catO, ev_sub, ev_mul, ev_div, ev_mod, ev_p5, ev_p6, ev_p12, ev_p18, ev_p30, ev_neg, ev_ltI, ev_ltS, ev_leI, ev_leS, ev_gt, ev_ge, ev_eqI, ev_eqS, ev_neI, ev_neS, ev_neB, ev_eqB, ev_is, ev_isnot, ev_ixT, ev_ixS, ev_ixR, ev_ixL, ev_ixK, ev_getL, ev_getM, ev_gL, ev_gM, ev_at0, ev_at1, ev_at2, ev_at3, ev_at4, ev_lenS, ev_lenR, ev_lenT, ev_lenL, ev_lenO, ev_lenD, ev_abs, ev_min2, ev_max2, ev_intI, ev_intB, ev_set, ev_fc, ev_setset, ev_last, ev_appk, ev_app0, ev_setk, ev_set0, ev_assoc, ev_lapp, ev_lappA, ev_sl, ev_nopart, ev_part, ev_ptK, ev_slT, ev_slS, ev_slR, ev_slK, ev_tyN, ev_tyB, ev_tyI, ev_tyS, ev_tyT, ev_tyL, ev_tyR, ev_tyRL, ev_isi, ev_isi1, ev_isi2, ev_isi3, ev_isi4, ev_isi5, ev_isiT, ev_isi2K, ev_isTy, ev_list, ev_listK, ev_tuple, ev_tupK, ev_getST, ev_getSR, ev_getSL, ev_all, ev_allK, ev_eqXI, ev_eqXS, ev_neXI, ev_neXS, ev_neXB, ev_eqXB, ev_eqXR, ev_neXR, ev_nil2, ev_eqK, ev_neK, ev_meth, ev_meth0, ev_mth1, ev_mth2, ev_mth3, ev_append, ev_m0, ev_m0K, ev_str, ev_for, ev_miR1, ev_rg1K, ev_miL, ev_liK, ev_miT, ev_tiK, ev_lc, ev_wipe0, ev_wipeS, ev_yes, ev_lenSet, ev_lenSetK, ev_listR, ev_lrK, ev_put2, ev_p2A, ev_p2K, ev_p2E, ev_put1, ev_pt1, ev_addXI, ev_addXB, ev_addXS, ev_addXT, ev_addXL, ev_subXI, ev_subXB, ev_mulXI, ev_mulXB, ev_mulXL, ev_negXI, ev_negXB, ev_strXI, ev_strXB, ev_mulYI, ev_mulYB, ev_mulYL, ev_mulYT, ev_dnew, ev_dnewT, ev_dgetE, ev_getD, ev_gD, ev_keyI, ev_keyS, ev_dgK, ev_dinE, ev_diK, ev_dputE, ev_dpK, ev_dget2E, ev_isDA, ev_isSome, ev_isNone, ev_dg2K, ev_dpop2E, ev_dp2K, ev_dp3S, ev_dp3N, ev_sortedE, ev_srO1, ev_srO2, ev_gLd, ev_srKS, ev_srKI, ev_gDT, ev_gT, ev_tinE, ev_tiKK, ev_keysA, ev_keysN, ev_keysC, ev_dputTE, ev_dptK, ev_dispE, ev_mpN, ev_mpC, ev_pcK, ev_dsK, ev_dsK2, ev_lc2E, ev_imp, ev_simp, ev_split, ev_splF, ev_splG, ev_fmt, ev_fmtS, ev_fmtI, ev_addK, ev_js0, ev_js1, ev_joined, ev_star, ev_starK, ev_each2, ev_each2K, ev_unl, ev_unlK, ev_intS, ev_strYS, ev_strYI, ev_mjoin, ev_joinG, ev_joinK, ev_sbind, ev_miS, ev_siK, List.getElem?_cons_zero, List.getElem?_cons_succ, List.set_cons_zero, List.set_cons_succ, List.length_cons, List.length_nil, List.cons_append, List.nil_append, if_true, if_false, Bool.false_eq_true, Bool.true_eq_false, reduceIte, Bool.not_true, Bool.not_false, Bool.and_true, Bool.true_and, Bool.and_false, Bool.false_and, Bool.or_true, Bool.true_or, Bool.or_false, Bool.false_or, decide_eq_true_eq, Nat.reduceAdd, Nat.reduceLeDiff, Nat.zero_add, Int.reduceLT, Int.reduceLE, Int.reduceEq, Int.reduceNeg, Nat.reduceEqDiff, and_self, and_true, true_and, decide_true, decide_false, eq_self, ite_true, ite_false, Int.reduceSub, Int.reduceAdd, Int.cast_ofNat_Int, Int.natCast_add, Int.cast_ofNat_Int, Nat.reduceSub, Nat.add_assoc, String.reduceBEq, String.reduceEq, Bool.or_not_self, beq_self_eq_true]
  refine okR_use (number_wp (i := l) (by omega) (by omega)) fun a s hh => ?_
  obtain ⟨rfl, k3, rfl⟩ := hh
  simp only [wp_okR, wp_okF, wp_fin, wp_next, wp_then, wp_bind, wp_nox, wp_tK, wp_bK, wp_fr, wp_fn, wp_nn, wp_nr, wp_nb, wp_nc, wp_ln, wp_lc, wp_lb, wp_lr, wp_jn, wp_jc, ev_bok, ev_bno, ev_bex, ev_tok, ev_tno, ev_tex, ev_nnx, ev_nrt, ev_nbk, ev_nct, ev_nex, ev_nno, ev_frt, ev_fnx, ev_fex, ev_xok, ev_lsome, ev_lnone, ev_seq, ev_if, ev_ret, ev_retN, ev_drop, ev_nop, ev_brk, ev_cont, ev_asgN, ev_asgT, ev_asgO, ev_mgTup, ev_mgN, ev_mgC, ev_mg0, ev_putL, ev_putO, ev_var, ev_vr, ev_c, ev_op, ev_un, ev_test, ev_tb, ev_notT, ev_andT, ev_orT, ev_ifE, ev_not, ev_nb, ev_and, ev_andK, ev_or, ev_orK, ev_chain, ev_chK, ev_nil, ev_cons, ev_tup, ev_lst, ev_new, ev_call, ev_cb, ev_size, ev_addI, ev_addS, ev_addT, ev_addL, ev_catO, ev_sub, ev_mul, ev_div, ev_mod, ev_p5, ev_p6, ev_p12, ev_p18, ev_p30, ev_neg, ev_ltI, ev_ltS, ev_leI, ev_leS, ev_gt, ev_ge, ev_eqI, ev_eqS, ev_neI, ev_neS, ev_neB, ev_eqB, ev_is, ev_isnot, ev_ixT, ev_ixS, ev_ixR, ev_ixL, ev_ixK, ev_getL, ev_getM, ev_gL, ev_gM, ev_at0, ev_at1, ev_at2, ev_at3, ev_at4, ev_lenS, ev_lenR, ev_lenT, ev_lenL, ev_lenO, ev_lenD, ev_abs, ev_min2, ev_max2, ev_intI, ev_intB, ev_set, ev_fc, ev_setset, ev_last, ev_appk, ev_app0, ev_setk, ev_set0, ev_assoc, ev_lapp, ev_lappA, ev_sl, ev_nopart, ev_part, ev_ptK, ev_slT, ev_slS, ev_slR, ev_slK, ev_tyN, ev_tyB, ev_tyI, ev_tyS, ev_tyT, ev_tyL, ev_tyR, ev_tyRL, ev_isi, ev_isi1, ev_isi2, ev_isi3, ev_isi4, ev_isi5, ev_isiT, ev_isi2K, ev_isTy, ev_list, ev_listK, ev_tuple, ev_tupK, ev_getST, ev_getSR, ev_getSL, ev_all, ev_allK, ev_eqXI, ev_eqXS, ev_neXI, ev_neXS, ev_neXB, ev_eqXB, ev_eqXR, ev_neXR, ev_nil2, ev_eqK, ev_neK, ev_meth, ev_meth0, ev_mth1, ev_mth2, ev_mth3, ev_append, ev_m0, ev_m0K, ev_str, ev_for, ev_miR1, ev_rg1K, ev_miL, ev_liK, ev_miT, ev_tiK, ev_lc, ev_wipe0, ev_wipeS, ev_yes, ev_lenSet, ev_lenSetK, ev_listR, ev_lrK, ev_put2, ev_p2A, ev_p2K, ev_p2E, ev_put1, ev_pt1, ev_addXI, ev_addXB, ev_addXS, ev_addXT, ev_addXL, ev_subXI, ev_subXB, ev_mulXI, ev_mulXB, ev_mulXL, ev_negXI, ev_negXB, ev_strXI, ev_strXB, ev_mulYI, ev_mulYB, ev_mulYL, ev_mulYT, ev_dnew, ev_dnewT, ev_dgetE, ev_getD, ev_gD, ev_keyI, ev_keyS, ev_dgK, ev_dinE, ev_diK, ev_dputE, ev_dpK, ev_dget2E, ev_isDA, ev_isSome, ev_isNone, ev_dg2K, ev_dpop2E, ev_dp2K, ev_dp3S, ev_dp3N, ev_sortedE, ev_srO1, ev_srO2, ev_gLd, ev_srKS, ev_srKI, ev_gDT, ev_gT, ev_tinE, ev_tiKK, ev_keysA, ev_keysN, ev_keysC, ev_dputTE, ev_dptK, ev_dispE, ev_mpN, ev_mpC, ev_pcK, ev_dsK, ev_dsK2, ev_lc2E, ev_imp, ev_simp, ev_split, ev_splF, ev_splG, ev_fmt, ev_fmtS, ev_fmtI, ev_addK, ev_js0, ev_js1, ev_joined, ev_star, ev_starK, ev_each2, ev_each2K, ev_unl, ev_unlK, ev_intS, ev_strYS, ev_strYI, ev_mjoin, ev_joinG, ev_joinK, ev_sbind, ev_miS, ev_siK, List.getElem?_cons_zero, List.getElem?_cons_succ, List.set_cons_zero, List.set_cons_succ, List.length_cons, List.length_nil, List.cons_append, List.nil_append, if_true, if_false, Bool.false_eq_true, Bool.true_eq_false, reduceIte, Bool.not_true, Bool.not_false, Bool.and_true, Bool.true_and, Bool.and_false, Bool.false_and, Bool.or_true, Bool.true_or, Bool.or_false, Bool.false_or, decide_eq_true_eq, Nat.reduceAdd, Nat.reduceLeDiff, Nat.zero_add, Int.reduceLT, Int.reduceLE, Int.reduceEq, Int.reduceNeg, Nat.reduceEqDiff, and_self, and_true, true_and, decide_true, decide_false, eq_self, ite_true, ite_false, Int.reduceSub, Int.reduceAdd, Int.cast_ofNat_Int, Int.natCast_add, Int.cast_ofNat_Int, Nat.reduceSub, Nat.add_assoc, String.reduceBEq, String.reduceEq, Bool.or_not_self, beq_self_eq_true]
  refine okR_use (number_wp (i := d) (by omega) (by omega)) fun a s hh => ?_
  obtain ⟨rfl, k4, rfl⟩ := hh
  simp only [wp_okR, wp_okF, wp_fin, wp_next, wp_then, wp_bind, wp_nox, wp_tK, wp_bK, wp_fr, wp_fn, wp_nn, wp_nr, wp_nb, wp_nc, wp_ln, wp_lc, wp_lb, wp_lr, wp_jn, wp_jc, ev_bok, ev_bno, ev_bex, ev_tok, ev_tno, ev_tex, ev_nnx, ev_nrt, ev_nbk, ev_nct, ev_nex, ev_nno, ev_frt, ev_fnx, ev_fex, ev_xok, ev_lsome, ev_lnone, ev_seq, ev_if, ev_ret, ev_retN, ev_drop, ev_nop, ev_brk, ev_cont, ev_asgN, ev_asgT, ev_asgO, ev_mgTup, ev_mgN, ev_mgC, ev_mg0, ev_putL, ev_putO, ev_var, ev_vr, ev_c, ev_op, ev_un, ev_test, ev_tb, ev_notT, ev_andT, ev_orT, ev_ifE, ev_not, ev_nb, ev_and, ev_andK, ev_or, ev_orK, ev_chain, ev_chK, ev_nil, ev_cons, ev_tup, ev_lst, ev_new, ev_call, ev_cb, ev_size, ev_addI, ev_addS, ev_addT, ev_addL, ev_catO, ev_sub, ev_mul, ev_div, ev_mod, ev_p5, ev_p6, ev_p12, ev_p18, ev_p30, ev_neg, ev_ltI, ev_ltS, ev_leI, ev_leS, ev_gt, ev_ge, ev_eqI, ev_eqS, ev_neI, ev_neS, ev_neB, ev_eqB, ev_is, ev_isnot, ev_ixT, ev_ixS, ev_ixR, ev_ixL, ev_ixK, ev_getL, ev_getM, ev_gL, ev_gM, ev_at0, ev_at1, ev_at2, ev_at3, ev_at4, ev_lenS, ev_lenR, ev_lenT, ev_lenL, ev_lenO, ev_lenD, ev_abs, ev_min2, ev_max2, ev_intI, ev_intB, ev_set, ev_fc, ev_setset, ev_last, ev_appk, ev_app0, ev_setk, ev_set0, ev_assoc, ev_lapp, ev_lappA, ev_sl, ev_nopart, ev_part, ev_ptK, ev_slT, ev_slS, ev_slR, ev_slK, ev_tyN, ev_tyB, ev_tyI, ev_tyS, ev_tyT, ev_tyL, ev_tyR, ev_tyRL, ev_isi, ev_isi1, ev_isi2, ev_isi3, ev_isi4, ev_isi5, ev_isiT, ev_isi2K, ev_isTy, ev_list, ev_listK, ev_tuple, ev_tupK, ev_getST, ev_getSR, ev_getSL, ev_all, ev_allK, ev_eqXI, ev_eqXS, ev_neXI, ev_neXS, ev_neXB, ev_eqXB, ev_eqXR, ev_neXR, ev_nil2, ev_eqK, ev_neK, ev_meth, ev_meth0, ev_mth1, ev_mth2, ev_mth3, ev_append, ev_m0, ev_m0K, ev_str, ev_for, ev_miR1, ev_rg1K, ev_miL, ev_liK, ev_miT, ev_tiK, ev_lc, ev_wipe0, ev_wipeS, ev_yes, ev_lenSet, ev_lenSetK, ev_listR, ev_lrK, ev_put2, ev_p2A, ev_p2K, ev_p2E, ev_put1, ev_pt1, ev_addXI, ev_addXB, ev_addXS, ev_addXT, ev_addXL, ev_subXI, ev_subXB, ev_mulXI, ev_mulXB, ev_mulXL, ev_negXI, ev_negXB, ev_strXI, ev_strXB, ev_mulYI, ev_mulYB, ev_mulYL, ev_mulYT, ev_dnew, ev_dnewT, ev_dgetE, ev_getD, ev_gD, ev_keyI, ev_keyS, ev_dgK, ev_dinE, ev_diK, ev_dputE, ev_dpK, ev_dget2E, ev_isDA, ev_isSome, ev_isNone, ev_dg2K, ev_dpop2E, ev_dp2K, ev_dp3S, ev_dp3N, ev_sortedE, ev_srO1, ev_srO2, ev_gLd, ev_srKS, ev_srKI, ev_gDT, ev_gT, ev_tinE, ev_tiKK, ev_keysA, ev_keysN, ev_keysC, ev_dputTE, ev_dptK, ev_dispE, ev_mpN, ev_mpC, ev_pcK, ev_dsK, ev_dsK2, ev_lc2E, ev_imp, ev_simp, ev_split, ev_splF, ev_splG, ev_fmt, ev_fmtS, ev_fmtI, ev_addK, ev_js0, ev_js1, ev_joined, ev_star, ev_starK, ev_each2, ev_each2K, ev_unl, ev_unlK, ev_intS, ev_strYS, ev_strYI, ev_mjoin, ev_joinG, ev_joinK, ev_sbind, ev_miS, ev_siK, List.getElem?_cons_zero, List.getElem?_cons_succ, List.set_cons_zero, List.set_cons_succ, List.length_cons, List.length_nil, List.cons_append, List.nil_append, if_true, if_false, Bool.false_eq_true, Bool.true_eq_false, reduceIte, Bool.not_true, Bool.not_false, Bool.and_true, Bool.true_and, Bool.and_false, Bool.false_and, Bool.or_true, Bool.true_or, Bool.or_false, Bool.false_or, decide_eq_true_eq, Nat.reduceAdd, Nat.reduceLeDiff, Nat.zero_add, Int.reduceLT, Int.reduceLE, Int.reduceEq, Int.reduceNeg, Nat.reduceEqDiff, and_self, and_true, true_and, decide_true, decide_false, eq_self, ite_true, ite_false, Int.reduceSub, Int.reduceAdd, Int.cast_ofNat_Int, Int.natCast_add, Int.cast_ofNat_Int, Nat.reduceSub, Nat.add_assoc, String.reduceBEq, String.reduceEq, Bool.or_not_self, beq_self_eq_true]
  rw [← setA_is]
  refine okR_use (isSetup_wp h) fun a s hh => ?_
  obtain ⟨rfl, k5, rfl⟩ := hh
  simp only [wp_okR, wp_okF, wp_fin, wp_next, wp_then, wp_bind, wp_nox, wp_tK, wp_bK, wp_fr, wp_fn, wp_nn, wp_nr, wp_nb, wp_nc, wp_ln, wp_lc, wp_lb, wp_lr, wp_jn, wp_jc, ev_bok, ev_bno, ev_bex, ev_tok, ev_tno, ev_tex, ev_nnx, ev_nrt, ev_nbk, ev_nct, ev_nex, ev_nno, ev_frt, ev_fnx, ev_fex, ev_xok, ev_lsome, ev_lnone, ev_seq, ev_if, ev_ret, ev_retN, ev_drop, ev_nop, ev_brk, ev_cont, ev_asgN, ev_asgT, ev_asgO, ev_mgTup, ev_mgN, ev_mgC, ev_mg0, ev_putL, ev_putO, ev_var, ev_vr, ev_c, ev_op, ev_un, ev_test, ev_tb, ev_notT, ev_andT, ev_orT, ev_ifE, ev_not, ev_nb, ev_and, ev_andK, ev_or, ev_orK, ev_chain, ev_chK, ev_nil, ev_cons, ev_tup, ev_lst, ev_new, ev_call, ev_cb, ev_size, ev_addI, ev_addS, ev_addT, ev_addL, ev_catO, ev_sub, ev_mul, ev_div, ev_mod, ev_p5, ev_p6, ev_p12, ev_p18, ev_p30, ev_neg, ev_ltI, ev_ltS, ev_leI, ev_leS, ev_gt, ev_ge, ev_eqI, ev_eqS, ev_neI, ev_neS, ev_neB, ev_eqB, ev_is, ev_isnot, ev_ixT, ev_ixS, ev_ixR, ev_ixL, ev_ixK, ev_getL, ev_getM, ev_gL, ev_gM, ev_at0, ev_at1, ev_at2, ev_at3, ev_at4, ev_lenS, ev_lenR, ev_lenT, ev_lenL, ev_lenO, ev_lenD, ev_abs, ev_min2, ev_max2, ev_intI, ev_intB, ev_set, ev_fc, ev_setset, ev_last, ev_appk, ev_app0, ev_setk, ev_set0, ev_assoc, ev_lapp, ev_lappA, ev_sl, ev_nopart, ev_part, ev_ptK, ev_slT, ev_slS, ev_slR, ev_slK, ev_tyN, ev_tyB, ev_tyI, ev_tyS, ev_tyT, ev_tyL, ev_tyR, ev_tyRL, ev_isi, ev_isi1, ev_isi2, ev_isi3, ev_isi4, ev_isi5, ev_isiT, ev_isi2K, ev_isTy, ev_list, ev_listK, ev_tuple, ev_tupK, ev_getST, ev_getSR, ev_getSL, ev_all, ev_allK, ev_eqXI, ev_eqXS, ev_neXI, ev_neXS, ev_neXB, ev_eqXB, ev_eqXR, ev_neXR, ev_nil2, ev_eqK, ev_neK, ev_meth, ev_meth0, ev_mth1, ev_mth2, ev_mth3, ev_append, ev_m0, ev_m0K, ev_str, ev_for, ev_miR1, ev_rg1K, ev_miL, ev_liK, ev_miT, ev_tiK, ev_lc, ev_wipe0, ev_wipeS, ev_yes, ev_lenSet, ev_lenSetK, ev_listR, ev_lrK, ev_put2, ev_p2A, ev_p2K, ev_p2E, ev_put1, ev_pt1, ev_addXI, ev_addXB, ev_addXS, ev_addXT, ev_addXL, ev_subXI, ev_subXB, ev_mulXI, ev_mulXB, ev_mulXL, ev_negXI, ev_negXB, ev_strXI, ev_strXB, ev_mulYI, ev_mulYB, ev_mulYL, ev_mulYT, ev_dnew, ev_dnewT, ev_dgetE, ev_getD, ev_gD, ev_keyI, ev_keyS, ev_dgK, ev_dinE, ev_diK, ev_dputE, ev_dpK, ev_dget2E, ev_isDA, ev_isSome, ev_isNone, ev_dg2K, ev_dpop2E, ev_dp2K, ev_dp3S, ev_dp3N, ev_sortedE, ev_srO1, ev_srO2, ev_gLd, ev_srKS, ev_srKI, ev_gDT, ev_gT, ev_tinE, ev_tiKK, ev_keysA, ev_keysN, ev_keysC, ev_dputTE, ev_dptK, ev_dispE, ev_mpN, ev_mpC, ev_pcK, ev_dsK, ev_dsK2, ev_lc2E, ev_imp, ev_simp, ev_split, ev_splF, ev_splG, ev_fmt, ev_fmtS, ev_fmtI, ev_addK, ev_js0, ev_js1, ev_joined, ev_star, ev_starK, ev_each2, ev_each2K, ev_unl, ev_unlK, ev_intS, ev_strYS, ev_strYI, ev_mjoin, ev_joinG, ev_joinK, ev_sbind, ev_miS, ev_siK, List.getElem?_cons_zero, List.getElem?_cons_succ, List.set_cons_zero, List.set_cons_succ, List.length_cons, List.length_nil, List.cons_append, List.nil_append, if_true, if_false, Bool.false_eq_true, Bool.true_eq_false, reduceIte, Bool.not_true, Bool.not_false, Bool.and_true, Bool.true_and, Bool.and_false, Bool.false_and, Bool.or_true, Bool.true_or, Bool.or_false, Bool.false_or, decide_eq_true_eq, Nat.reduceAdd, Nat.reduceLeDiff, Nat.zero_add, Int.reduceLT, Int.reduceLE, Int.reduceEq, Int.reduceNeg, Nat.reduceEqDiff, and_self, and_true, true_and, decide_true, decide_false, eq_self, ite_true, ite_false, Int.reduceSub, Int.reduceAdd, Int.cast_ofNat_Int, Int.natCast_add, Int.cast_ofNat_Int, Nat.reduceSub, Nat.add_assoc, String.reduceBEq, String.reduceEq, Bool.or_not_self, beq_self_eq_true]
  exact ⟨_, rfl⟩
theorem readSetup_wp {S : Sto} {fs : List (Str × Int)} {cs : List (Str × Int × Int)} {l d : Int} (h : SetG fs cs l d) : okR (m_read_setup [.str (setT fs cs l d)] S) fun y t => y = setA fs cs l d ∧ ∃ l, t = S ++ l := by
  rw [st_read_setup]
  unfold b_read_setup
  simp only [wp_okR, wp_okF, wp_fin, wp_next, wp_then, wp_bind, wp_nox, wp_tK, wp_bK, wp_fr, wp_fn, wp_nn, wp_nr, wp_nb, wp_nc, wp_ln, wp_lc, wp_lb, wp_lr, wp_jn, wp_jc, ev_bok, ev_bno, ev_bex, ev_tok, ev_tno, ev_tex, ev_nnx, ev_nrt, ev_nbk, ev_nct, ev_nex, ev_nno, ev_frt, ev_fnx, ev_fex, ev_xok, ev_lsome, ev_lnone, ev_seq, ev_if, ev_ret, ev_retN, ev_drop, ev_nop, ev_brk, ev_cont, ev_asgN, ev_asgT, ev_asgO, ev_mgTup, ev_mgN, ev_mgC, ev_mg0, ev_putL, ev_putO, ev_var, ev_vr, ev_c, ev_op, ev_un, ev_test, ev_tb, ev_notT, ev_andT, ev_orT, ev_ifE, ev_not, ev_nb, ev_and, ev_andK, ev_or, ev_orK, ev_chain, ev_chK, ev_nil, ev_cons, ev_tup, ev_lst, ev_new, ev_call, ev_cb, ev_size, ev_addI, ev_addS, ev_addT, ev_addL, ev_catO, ev_sub, ev_mul, ev_div, ev_mod, ev_p5, ev_p6, ev_p12, ev_p18, ev_p30, ev_neg, ev_ltI, ev_ltS, ev_leI, ev_leS, ev_gt, ev_ge, ev_eqI, ev_eqS, ev_neI, ev_neS, ev_neB, ev_eqB, ev_is, ev_isnot, ev_ixT, ev_ixS, ev_ixR, ev_ixL, ev_ixK, ev_getL, ev_getM, ev_gL, ev_gM, ev_at0, ev_at1, ev_at2, ev_at3, ev_at4, ev_lenS, ev_lenR, ev_lenT, ev_lenL, ev_lenO, ev_lenD, ev_abs, ev_min2, ev_max2, ev_intI, ev_intB, ev_set, ev_fc, ev_setset, ev_last, ev_appk, ev_app0, ev_setk, ev_set0, ev_assoc, ev_lapp, ev_lappA, ev_sl, ev_nopart, ev_part, ev_ptK, ev_slT, ev_slS, ev_slR, ev_slK, ev_tyN, ev_tyB, ev_tyI, ev_tyS, ev_tyT, ev_tyL, ev_tyR, ev_tyRL, ev_isi, ev_isi1, ev_isi2, ev_isi3, ev_isi4, ev_isi5, ev_isiT, ev_isi2K, ev_isTy, ev_list, ev_listK, ev_tuple, ev_tupK, ev_getST, ev_getSR, ev_getSL, ev_all, ev_allK, ev_eqXI, ev_eqXS, ev_neXI, ev_neXS, ev_neXB, ev_eqXB, ev_eqXR, ev_neXR, ev_nil2, ev_eqK, ev_neK, ev_meth, ev_meth0, ev_mth1, ev_mth2, ev_mth3, ev_append, ev_m0, ev_m0K, ev_str, ev_for, ev_miR1, ev_rg1K, ev_miL, ev_liK, ev_miT, ev_tiK, ev_lc, ev_wipe0, ev_wipeS, ev_yes, ev_lenSet, ev_lenSetK, ev_listR, ev_lrK, ev_put2, ev_p2A, ev_p2K, ev_p2E, ev_put1, ev_pt1, ev_addXI, ev_addXB, ev_addXS, ev_addXT, ev_addXL, ev_subXI, ev_subXB, ev_mulXI, ev_mulXB, ev_mulXL, ev_negXI, ev_negXB, ev_strXI, ev_strXB, ev_mulYI, ev_mulYB, ev_mulYL, ev_mulYT, ev_dnew, ev_dnewT, ev_dgetE, ev_getD, ev_gD, ev_keyI, ev_keyS, ev_dgK, ev_dinE, ev_diK, ev_dputE, ev_dpK, ev_dget2E, ev_isDA, ev_isSome, ev_isNone, ev_dg2K, ev_dpop2E, ev_dp2K, ev_dp3S, ev_dp3N, ev_sortedE, ev_srO1, ev_srO2, ev_gLd, ev_srKS, ev_srKI, ev_gDT, ev_gT, ev_tinE, ev_tiKK, ev_keysA, ev_keysN, ev_keysC, ev_dputTE, ev_dptK, ev_dispE, ev_mpN, ev_mpC, ev_pcK, ev_dsK, ev_dsK2, ev_lc2E, ev_imp, ev_simp, ev_split, ev_splF, ev_splG, ev_fmt, ev_fmtS, ev_fmtI, ev_addK, ev_js0, ev_js1, ev_joined, ev_star, ev_starK, ev_each2, ev_each2K, ev_unl, ev_unlK, ev_intS, ev_strYS, ev_strYI, ev_mjoin, ev_joinG, ev_joinK, ev_sbind, ev_miS, ev_siK, List.getElem?_cons_zero, List.getElem?_cons_succ, List.set_cons_zero, List.set_cons_succ, List.length_cons, List.length_nil, List.cons_append, List.nil_append, if_true, if_false, Bool.false_eq_true, Bool.true_eq_false, reduceIte, Bool.not_true, Bool.not_false, Bool.and_true, Bool.true_and, Bool.and_false, Bool.false_and, Bool.or_true, Bool.true_or, Bool.or_false, Bool.false_or, decide_eq_true_eq, Nat.reduceAdd, Nat.reduceLeDiff, Nat.zero_add, Int.reduceLT, Int.reduceLE, Int.reduceEq, Int.reduceNeg, Nat.reduceEqDiff, and_self, and_true, true_and, decide_true, decide_false, eq_self, ite_true, ite_false, Int.reduceSub, Int.reduceAdd, Int.cast_ofNat_Int, Int.natCast_add, Int.cast_ofNat_Int, Nat.reduceSub, Nat.add_assoc, String.reduceBEq, String.reduceEq, Bool.or_not_self, beq_self_eq_true]
  refine okR_use (setupOf_wp h) fun a s hh => ?_
  obtain ⟨rfl, k1, rfl⟩ := hh
  rw [setA_is]
  have nn : ∀ xs, isNon (A.tup xs) = false := fun _ => rfl
  simp only [wp_okR, wp_okF, wp_fin, wp_next, wp_then, wp_bind, wp_nox, wp_tK, wp_bK, wp_fr, wp_fn, wp_nn, wp_nr, wp_nb, wp_nc, wp_ln, wp_lc, wp_lb, wp_lr, wp_jn, wp_jc, ev_bok, ev_bno, ev_bex, ev_tok, ev_tno, ev_tex, ev_nnx, ev_nrt, ev_nbk, ev_nct, ev_nex, ev_nno, ev_frt, ev_fnx, ev_fex, ev_xok, ev_lsome, ev_lnone, ev_seq, ev_if, ev_ret, ev_retN, ev_drop, ev_nop, ev_brk, ev_cont, ev_asgN, ev_asgT, ev_asgO, ev_mgTup, ev_mgN, ev_mgC, ev_mg0, ev_putL, ev_putO, ev_var, ev_vr, ev_c, ev_op, ev_un, ev_test, ev_tb, ev_notT, ev_andT, ev_orT, ev_ifE, ev_not, ev_nb, ev_and, ev_andK, ev_or, ev_orK, ev_chain, ev_chK, ev_nil, ev_cons, ev_tup, ev_lst, ev_new, ev_call, ev_cb, ev_size, ev_addI, ev_addS, ev_addT, ev_addL, ev_catO, ev_sub, ev_mul, ev_div, ev_mod, ev_p5, ev_p6, ev_p12, ev_p18, ev_p30, ev_neg, ev_ltI, ev_ltS, ev_leI, ev_leS, ev_gt, ev_ge, ev_eqI, ev_eqS, ev_neI, ev_neS, ev_neB, ev_eqB, ev_is, ev_isnot, ev_ixT, ev_ixS, ev_ixR, ev_ixL, ev_ixK, ev_getL, ev_getM, ev_gL, ev_gM, ev_at0, ev_at1, ev_at2, ev_at3, ev_at4, ev_lenS, ev_lenR, ev_lenT, ev_lenL, ev_lenO, ev_lenD, ev_abs, ev_min2, ev_max2, ev_intI, ev_intB, ev_set, ev_fc, ev_setset, ev_last, ev_appk, ev_app0, ev_setk, ev_set0, ev_assoc, ev_lapp, ev_lappA, ev_sl, ev_nopart, ev_part, ev_ptK, ev_slT, ev_slS, ev_slR, ev_slK, ev_tyN, ev_tyB, ev_tyI, ev_tyS, ev_tyT, ev_tyL, ev_tyR, ev_tyRL, ev_isi, ev_isi1, ev_isi2, ev_isi3, ev_isi4, ev_isi5, ev_isiT, ev_isi2K, ev_isTy, ev_list, ev_listK, ev_tuple, ev_tupK, ev_getST, ev_getSR, ev_getSL, ev_all, ev_allK, ev_eqXI, ev_eqXS, ev_neXI, ev_neXS, ev_neXB, ev_eqXB, ev_eqXR, ev_neXR, ev_nil2, ev_eqK, ev_neK, ev_meth, ev_meth0, ev_mth1, ev_mth2, ev_mth3, ev_append, ev_m0, ev_m0K, ev_str, ev_for, ev_miR1, ev_rg1K, ev_miL, ev_liK, ev_miT, ev_tiK, ev_lc, ev_wipe0, ev_wipeS, ev_yes, ev_lenSet, ev_lenSetK, ev_listR, ev_lrK, ev_put2, ev_p2A, ev_p2K, ev_p2E, ev_put1, ev_pt1, ev_addXI, ev_addXB, ev_addXS, ev_addXT, ev_addXL, ev_subXI, ev_subXB, ev_mulXI, ev_mulXB, ev_mulXL, ev_negXI, ev_negXB, ev_strXI, ev_strXB, ev_mulYI, ev_mulYB, ev_mulYL, ev_mulYT, ev_dnew, ev_dnewT, ev_dgetE, ev_getD, ev_gD, ev_keyI, ev_keyS, ev_dgK, ev_dinE, ev_diK, ev_dputE, ev_dpK, ev_dget2E, ev_isDA, ev_isSome, ev_isNone, ev_dg2K, ev_dpop2E, ev_dp2K, ev_dp3S, ev_dp3N, ev_sortedE, ev_srO1, ev_srO2, ev_gLd, ev_srKS, ev_srKI, ev_gDT, ev_gT, ev_tinE, ev_tiKK, ev_keysA, ev_keysN, ev_keysC, ev_dputTE, ev_dptK, ev_dispE, ev_mpN, ev_mpC, ev_pcK, ev_dsK, ev_dsK2, ev_lc2E, ev_imp, ev_simp, ev_split, ev_splF, ev_splG, ev_fmt, ev_fmtS, ev_fmtI, ev_addK, ev_js0, ev_js1, ev_joined, ev_star, ev_starK, ev_each2, ev_each2K, ev_unl, ev_unlK, ev_intS, ev_strYS, ev_strYI, ev_mjoin, ev_joinG, ev_joinK, ev_sbind, ev_miS, ev_siK, List.getElem?_cons_zero, List.getElem?_cons_succ, List.set_cons_zero, List.set_cons_succ, List.length_cons, List.length_nil, List.cons_append, List.nil_append, if_true, if_false, Bool.false_eq_true, Bool.true_eq_false, reduceIte, Bool.not_true, Bool.not_false, Bool.and_true, Bool.true_and, Bool.and_false, Bool.false_and, Bool.or_true, Bool.true_or, Bool.or_false, Bool.false_or, decide_eq_true_eq, Nat.reduceAdd, Nat.reduceLeDiff, Nat.zero_add, Int.reduceLT, Int.reduceLE, Int.reduceEq, Int.reduceNeg, Nat.reduceEqDiff, and_self, and_true, true_and, decide_true, decide_false, eq_self, ite_true, ite_false, Int.reduceSub, Int.reduceAdd, Int.cast_ofNat_Int, Int.natCast_add, Int.cast_ofNat_Int, Nat.reduceSub, Nat.add_assoc, String.reduceBEq, String.reduceEq, Bool.or_not_self, beq_self_eq_true, nn]
  exact ⟨_, rfl⟩
theorem noText_wp {S : Sto} {fs : List (Str × Int)} {cs : List (Str × Int × Int)} {l d : Int} (h : SetG fs cs l d) : okR (m__law_no_text [.int 0, .str (setT fs cs l d)] S) fun y t => y = .tup [setA fs cs l d, .str "", .int 0] ∧ ∃ l, t = S ++ l := by
  rw [st__law_no_text]
  unfold b__law_no_text
  simp only [wp_okR, wp_okF, wp_fin, wp_next, wp_then, wp_bind, wp_nox, wp_tK, wp_bK, wp_fr, wp_fn, wp_nn, wp_nr, wp_nb, wp_nc, wp_ln, wp_lc, wp_lb, wp_lr, wp_jn, wp_jc, ev_bok, ev_bno, ev_bex, ev_tok, ev_tno, ev_tex, ev_nnx, ev_nrt, ev_nbk, ev_nct, ev_nex, ev_nno, ev_frt, ev_fnx, ev_fex, ev_xok, ev_lsome, ev_lnone, ev_seq, ev_if, ev_ret, ev_retN, ev_drop, ev_nop, ev_brk, ev_cont, ev_asgN, ev_asgT, ev_asgO, ev_mgTup, ev_mgN, ev_mgC, ev_mg0, ev_putL, ev_putO, ev_var, ev_vr, ev_c, ev_op, ev_un, ev_test, ev_tb, ev_notT, ev_andT, ev_orT, ev_ifE, ev_not, ev_nb, ev_and, ev_andK, ev_or, ev_orK, ev_chain, ev_chK, ev_nil, ev_cons, ev_tup, ev_lst, ev_new, ev_call, ev_cb, ev_size, ev_addI, ev_addS, ev_addT, ev_addL, ev_catO, ev_sub, ev_mul, ev_div, ev_mod, ev_p5, ev_p6, ev_p12, ev_p18, ev_p30, ev_neg, ev_ltI, ev_ltS, ev_leI, ev_leS, ev_gt, ev_ge, ev_eqI, ev_eqS, ev_neI, ev_neS, ev_neB, ev_eqB, ev_is, ev_isnot, ev_ixT, ev_ixS, ev_ixR, ev_ixL, ev_ixK, ev_getL, ev_getM, ev_gL, ev_gM, ev_at0, ev_at1, ev_at2, ev_at3, ev_at4, ev_lenS, ev_lenR, ev_lenT, ev_lenL, ev_lenO, ev_lenD, ev_abs, ev_min2, ev_max2, ev_intI, ev_intB, ev_set, ev_fc, ev_setset, ev_last, ev_appk, ev_app0, ev_setk, ev_set0, ev_assoc, ev_lapp, ev_lappA, ev_sl, ev_nopart, ev_part, ev_ptK, ev_slT, ev_slS, ev_slR, ev_slK, ev_tyN, ev_tyB, ev_tyI, ev_tyS, ev_tyT, ev_tyL, ev_tyR, ev_tyRL, ev_isi, ev_isi1, ev_isi2, ev_isi3, ev_isi4, ev_isi5, ev_isiT, ev_isi2K, ev_isTy, ev_list, ev_listK, ev_tuple, ev_tupK, ev_getST, ev_getSR, ev_getSL, ev_all, ev_allK, ev_eqXI, ev_eqXS, ev_neXI, ev_neXS, ev_neXB, ev_eqXB, ev_eqXR, ev_neXR, ev_nil2, ev_eqK, ev_neK, ev_meth, ev_meth0, ev_mth1, ev_mth2, ev_mth3, ev_append, ev_m0, ev_m0K, ev_str, ev_for, ev_miR1, ev_rg1K, ev_miL, ev_liK, ev_miT, ev_tiK, ev_lc, ev_wipe0, ev_wipeS, ev_yes, ev_lenSet, ev_lenSetK, ev_listR, ev_lrK, ev_put2, ev_p2A, ev_p2K, ev_p2E, ev_put1, ev_pt1, ev_addXI, ev_addXB, ev_addXS, ev_addXT, ev_addXL, ev_subXI, ev_subXB, ev_mulXI, ev_mulXB, ev_mulXL, ev_negXI, ev_negXB, ev_strXI, ev_strXB, ev_mulYI, ev_mulYB, ev_mulYL, ev_mulYT, ev_dnew, ev_dnewT, ev_dgetE, ev_getD, ev_gD, ev_keyI, ev_keyS, ev_dgK, ev_dinE, ev_diK, ev_dputE, ev_dpK, ev_dget2E, ev_isDA, ev_isSome, ev_isNone, ev_dg2K, ev_dpop2E, ev_dp2K, ev_dp3S, ev_dp3N, ev_sortedE, ev_srO1, ev_srO2, ev_gLd, ev_srKS, ev_srKI, ev_gDT, ev_gT, ev_tinE, ev_tiKK, ev_keysA, ev_keysN, ev_keysC, ev_dputTE, ev_dptK, ev_dispE, ev_mpN, ev_mpC, ev_pcK, ev_dsK, ev_dsK2, ev_lc2E, ev_imp, ev_simp, ev_split, ev_splF, ev_splG, ev_fmt, ev_fmtS, ev_fmtI, ev_addK, ev_js0, ev_js1, ev_joined, ev_star, ev_starK, ev_each2, ev_each2K, ev_unl, ev_unlK, ev_intS, ev_strYS, ev_strYI, ev_mjoin, ev_joinG, ev_joinK, ev_sbind, ev_miS, ev_siK, List.getElem?_cons_zero, List.getElem?_cons_succ, List.set_cons_zero, List.set_cons_succ, List.length_cons, List.length_nil, List.cons_append, List.nil_append, if_true, if_false, Bool.false_eq_true, Bool.true_eq_false, reduceIte, Bool.not_true, Bool.not_false, Bool.and_true, Bool.true_and, Bool.and_false, Bool.false_and, Bool.or_true, Bool.true_or, Bool.or_false, Bool.false_or, decide_eq_true_eq, Nat.reduceAdd, Nat.reduceLeDiff, Nat.zero_add, Int.reduceLT, Int.reduceLE, Int.reduceEq, Int.reduceNeg, Nat.reduceEqDiff, and_self, and_true, true_and, decide_true, decide_false, eq_self, ite_true, ite_false, Int.reduceSub, Int.reduceAdd, Int.cast_ofNat_Int, Int.natCast_add, Int.cast_ofNat_Int, Nat.reduceSub, Nat.add_assoc, String.reduceBEq, String.reduceEq, Bool.or_not_self, beq_self_eq_true]
  refine okR_use (readSetup_wp h) fun a s hh => ?_
  obtain ⟨rfl, k1, rfl⟩ := hh
  simp only [wp_okR, wp_okF, wp_fin, wp_next, wp_then, wp_bind, wp_nox, wp_tK, wp_bK, wp_fr, wp_fn, wp_nn, wp_nr, wp_nb, wp_nc, wp_ln, wp_lc, wp_lb, wp_lr, wp_jn, wp_jc, ev_bok, ev_bno, ev_bex, ev_tok, ev_tno, ev_tex, ev_nnx, ev_nrt, ev_nbk, ev_nct, ev_nex, ev_nno, ev_frt, ev_fnx, ev_fex, ev_xok, ev_lsome, ev_lnone, ev_seq, ev_if, ev_ret, ev_retN, ev_drop, ev_nop, ev_brk, ev_cont, ev_asgN, ev_asgT, ev_asgO, ev_mgTup, ev_mgN, ev_mgC, ev_mg0, ev_putL, ev_putO, ev_var, ev_vr, ev_c, ev_op, ev_un, ev_test, ev_tb, ev_notT, ev_andT, ev_orT, ev_ifE, ev_not, ev_nb, ev_and, ev_andK, ev_or, ev_orK, ev_chain, ev_chK, ev_nil, ev_cons, ev_tup, ev_lst, ev_new, ev_call, ev_cb, ev_size, ev_addI, ev_addS, ev_addT, ev_addL, ev_catO, ev_sub, ev_mul, ev_div, ev_mod, ev_p5, ev_p6, ev_p12, ev_p18, ev_p30, ev_neg, ev_ltI, ev_ltS, ev_leI, ev_leS, ev_gt, ev_ge, ev_eqI, ev_eqS, ev_neI, ev_neS, ev_neB, ev_eqB, ev_is, ev_isnot, ev_ixT, ev_ixS, ev_ixR, ev_ixL, ev_ixK, ev_getL, ev_getM, ev_gL, ev_gM, ev_at0, ev_at1, ev_at2, ev_at3, ev_at4, ev_lenS, ev_lenR, ev_lenT, ev_lenL, ev_lenO, ev_lenD, ev_abs, ev_min2, ev_max2, ev_intI, ev_intB, ev_set, ev_fc, ev_setset, ev_last, ev_appk, ev_app0, ev_setk, ev_set0, ev_assoc, ev_lapp, ev_lappA, ev_sl, ev_nopart, ev_part, ev_ptK, ev_slT, ev_slS, ev_slR, ev_slK, ev_tyN, ev_tyB, ev_tyI, ev_tyS, ev_tyT, ev_tyL, ev_tyR, ev_tyRL, ev_isi, ev_isi1, ev_isi2, ev_isi3, ev_isi4, ev_isi5, ev_isiT, ev_isi2K, ev_isTy, ev_list, ev_listK, ev_tuple, ev_tupK, ev_getST, ev_getSR, ev_getSL, ev_all, ev_allK, ev_eqXI, ev_eqXS, ev_neXI, ev_neXS, ev_neXB, ev_eqXB, ev_eqXR, ev_neXR, ev_nil2, ev_eqK, ev_neK, ev_meth, ev_meth0, ev_mth1, ev_mth2, ev_mth3, ev_append, ev_m0, ev_m0K, ev_str, ev_for, ev_miR1, ev_rg1K, ev_miL, ev_liK, ev_miT, ev_tiK, ev_lc, ev_wipe0, ev_wipeS, ev_yes, ev_lenSet, ev_lenSetK, ev_listR, ev_lrK, ev_put2, ev_p2A, ev_p2K, ev_p2E, ev_put1, ev_pt1, ev_addXI, ev_addXB, ev_addXS, ev_addXT, ev_addXL, ev_subXI, ev_subXB, ev_mulXI, ev_mulXB, ev_mulXL, ev_negXI, ev_negXB, ev_strXI, ev_strXB, ev_mulYI, ev_mulYB, ev_mulYL, ev_mulYT, ev_dnew, ev_dnewT, ev_dgetE, ev_getD, ev_gD, ev_keyI, ev_keyS, ev_dgK, ev_dinE, ev_diK, ev_dputE, ev_dpK, ev_dget2E, ev_isDA, ev_isSome, ev_isNone, ev_dg2K, ev_dpop2E, ev_dp2K, ev_dp3S, ev_dp3N, ev_sortedE, ev_srO1, ev_srO2, ev_gLd, ev_srKS, ev_srKI, ev_gDT, ev_gT, ev_tinE, ev_tiKK, ev_keysA, ev_keysN, ev_keysC, ev_dputTE, ev_dptK, ev_dispE, ev_mpN, ev_mpC, ev_pcK, ev_dsK, ev_dsK2, ev_lc2E, ev_imp, ev_simp, ev_split, ev_splF, ev_splG, ev_fmt, ev_fmtS, ev_fmtI, ev_addK, ev_js0, ev_js1, ev_joined, ev_star, ev_starK, ev_each2, ev_each2K, ev_unl, ev_unlK, ev_intS, ev_strYS, ev_strYI, ev_mjoin, ev_joinG, ev_joinK, ev_sbind, ev_miS, ev_siK, List.getElem?_cons_zero, List.getElem?_cons_succ, List.set_cons_zero, List.set_cons_succ, List.length_cons, List.length_nil, List.cons_append, List.nil_append, if_true, if_false, Bool.false_eq_true, Bool.true_eq_false, reduceIte, Bool.not_true, Bool.not_false, Bool.and_true, Bool.true_and, Bool.and_false, Bool.false_and, Bool.or_true, Bool.true_or, Bool.or_false, Bool.false_or, decide_eq_true_eq, Nat.reduceAdd, Nat.reduceLeDiff, Nat.zero_add, Int.reduceLT, Int.reduceLE, Int.reduceEq, Int.reduceNeg, Nat.reduceEqDiff, and_self, and_true, true_and, decide_true, decide_false, eq_self, ite_true, ite_false, Int.reduceSub, Int.reduceAdd, Int.cast_ofNat_Int, Int.natCast_add, Int.cast_ofNat_Int, Nat.reduceSub, Nat.add_assoc, String.reduceBEq, String.reduceEq, Bool.or_not_self, beq_self_eq_true]
  exact ⟨_, rfl⟩

/-! ### the law's own reading of a setup -/
theorem lisName_wp {S : Sto} {x : Str} (h : nameP x) : okR (m__law_is_name [.str x] S) fun y t => y = .bl true ∧ ∃ l, t = S ++ l := by
  obtain ⟨n1, n8, hc⟩ := h
  rw [st__law_is_name]
  unfold b__law_is_name
  have a1 : (1 : Int) ≤ (x.length : Nat) := by omega
  have a2 : ((x.length : Nat) : Int) ≤ 8 := by omega
  have a3 : x.length ≤ 16777216 := by omega
  have cl : x.cps.toList.length = x.length := by simp [Str.length]
  simp only [wp_okR, wp_okF, wp_fin, wp_next, wp_then, wp_bind, wp_nox, wp_tK, wp_bK, wp_fr, wp_fn, wp_nn, wp_nr, wp_nb, wp_nc, wp_ln, wp_lc, wp_lb, wp_lr, wp_jn, wp_jc, ev_bok, ev_bno, ev_bex, ev_tok, ev_tno, ev_tex, ev_nnx, ev_nrt, ev_nbk, ev_nct, ev_nex, ev_nno, ev_frt, ev_fnx, ev_fex, ev_xok, ev_lsome, ev_lnone, ev_seq, ev_if, ev_ret, ev_retN, ev_drop, ev_nop, ev_brk, ev_cont, ev_asgN, ev_asgT, ev_asgO, ev_mgTup, ev_mgN, ev_mgC, ev_mg0, ev_putL, ev_putO, ev_var, ev_vr, ev_c, ev_op, ev_un, ev_test, ev_tb, ev_notT, ev_andT, ev_orT, ev_ifE, ev_not, ev_nb, ev_and, ev_andK, ev_or, ev_orK, ev_chain, ev_chK, ev_nil, ev_cons, ev_tup, ev_lst, ev_new, ev_call, ev_cb, ev_size, ev_addI, ev_addS, ev_addT, ev_addL, ev_catO, ev_sub, ev_mul, ev_div, ev_mod, ev_p5, ev_p6, ev_p12, ev_p18, ev_p30, ev_neg, ev_ltI, ev_ltS, ev_leI, ev_leS, ev_gt, ev_ge, ev_eqI, ev_eqS, ev_neI, ev_neS, ev_neB, ev_eqB, ev_is, ev_isnot, ev_ixT, ev_ixS, ev_ixR, ev_ixL, ev_ixK, ev_getL, ev_getM, ev_gL, ev_gM, ev_at0, ev_at1, ev_at2, ev_at3, ev_at4, ev_lenS, ev_lenR, ev_lenT, ev_lenL, ev_lenO, ev_lenD, ev_abs, ev_min2, ev_max2, ev_intI, ev_intB, ev_set, ev_fc, ev_setset, ev_last, ev_appk, ev_app0, ev_setk, ev_set0, ev_assoc, ev_lapp, ev_lappA, ev_sl, ev_nopart, ev_part, ev_ptK, ev_slT, ev_slS, ev_slR, ev_slK, ev_tyN, ev_tyB, ev_tyI, ev_tyS, ev_tyT, ev_tyL, ev_tyR, ev_tyRL, ev_isi, ev_isi1, ev_isi2, ev_isi3, ev_isi4, ev_isi5, ev_isiT, ev_isi2K, ev_isTy, ev_list, ev_listK, ev_tuple, ev_tupK, ev_getST, ev_getSR, ev_getSL, ev_all, ev_allK, ev_eqXI, ev_eqXS, ev_neXI, ev_neXS, ev_neXB, ev_eqXB, ev_eqXR, ev_neXR, ev_nil2, ev_eqK, ev_neK, ev_meth, ev_meth0, ev_mth1, ev_mth2, ev_mth3, ev_append, ev_m0, ev_m0K, ev_str, ev_for, ev_miR1, ev_rg1K, ev_miL, ev_liK, ev_miT, ev_tiK, ev_lc, ev_wipe0, ev_wipeS, ev_yes, ev_lenSet, ev_lenSetK, ev_listR, ev_lrK, ev_put2, ev_p2A, ev_p2K, ev_p2E, ev_put1, ev_pt1, ev_addXI, ev_addXB, ev_addXS, ev_addXT, ev_addXL, ev_subXI, ev_subXB, ev_mulXI, ev_mulXB, ev_mulXL, ev_negXI, ev_negXB, ev_strXI, ev_strXB, ev_mulYI, ev_mulYB, ev_mulYL, ev_mulYT, ev_dnew, ev_dnewT, ev_dgetE, ev_getD, ev_gD, ev_keyI, ev_keyS, ev_dgK, ev_dinE, ev_diK, ev_dputE, ev_dpK, ev_dget2E, ev_isDA, ev_isSome, ev_isNone, ev_dg2K, ev_dpop2E, ev_dp2K, ev_dp3S, ev_dp3N, ev_sortedE, ev_srO1, ev_srO2, ev_gLd, ev_srKS, ev_srKI, ev_gDT, ev_gT, ev_tinE, ev_tiKK, ev_keysA, ev_keysN, ev_keysC, ev_dputTE, ev_dptK, ev_dispE, ev_mpN, ev_mpC, ev_pcK, ev_dsK, ev_dsK2, ev_lc2E, ev_imp, ev_simp, ev_split, ev_splF, ev_splG, ev_fmt, ev_fmtS, ev_fmtI, ev_addK, ev_js0, ev_js1, ev_joined, ev_star, ev_starK, ev_each2, ev_each2K, ev_unl, ev_unlK, ev_intS, ev_strYS, ev_strYI, ev_mjoin, ev_joinG, ev_joinK, ev_sbind, ev_miS, ev_siK, List.getElem?_cons_zero, List.getElem?_cons_succ, List.set_cons_zero, List.set_cons_succ, List.length_cons, List.length_nil, List.cons_append, List.nil_append, if_true, if_false, Bool.false_eq_true, Bool.true_eq_false, reduceIte, Bool.not_true, Bool.not_false, Bool.and_true, Bool.true_and, Bool.and_false, Bool.false_and, Bool.or_true, Bool.true_or, Bool.or_false, Bool.false_or, decide_eq_true_eq, Nat.reduceAdd, Nat.reduceLeDiff, Nat.zero_add, Int.reduceLT, Int.reduceLE, Int.reduceEq, Int.reduceNeg, Nat.reduceEqDiff, and_self, and_true, true_and, decide_true, decide_false, eq_self, ite_true, ite_false, Int.reduceSub, Int.reduceAdd, Int.cast_ofNat_Int, Int.natCast_add, Int.cast_ofNat_Int, Nat.reduceSub, Nat.add_assoc, String.reduceBEq, String.reduceEq, Bool.or_not_self, beq_self_eq_true, a1, a2, a3]
  refine lc_W (fun _ => false) id (fun _ => trivial) (by unfold signs; rw [List.length_map]; omega) (fun y hy => ?_) (fun l' => ?_)
  · unfold signs at hy
    obtain ⟨c, hc', rfl⟩ := List.mem_map.mp hy
    have hm : c ∈ alpha.cps.toList := by
      have hm := hc c hc'
      have : ∀ d, d < 26 → 97 + d ∈ alpha.cps.toList := by decide +kernel
      have := this (c - 97) (by omega)
      rwa [show 97 + (c - 97) = c by omega] at this
    have e : ∀ k, oNotInX (.str ⟨#[c]⟩) (.str (Str.ofString "abcdefghijklmnopqrstuvwxyz")) (S ++ k) = .ok (.bl (!decide (c ∈ alpha.cps.toList))) (S ++ k) := fun _ => rfl
    refine ⟨_, rfl, fun k => ?_, fun z => by cases z⟩
    simp only [wp_okR, wp_okF, wp_fin, wp_next, wp_then, wp_bind, wp_nox, wp_tK, wp_bK, wp_fr, wp_fn, wp_nn, wp_nr, wp_nb, wp_nc, wp_ln, wp_lc, wp_lb, wp_lr, wp_jn, wp_jc, ev_bok, ev_bno, ev_bex, ev_tok, ev_tno, ev_tex, ev_nnx, ev_nrt, ev_nbk, ev_nct, ev_nex, ev_nno, ev_frt, ev_fnx, ev_fex, ev_xok, ev_lsome, ev_lnone, ev_seq, ev_if, ev_ret, ev_retN, ev_drop, ev_nop, ev_brk, ev_cont, ev_asgN, ev_asgT, ev_asgO, ev_mgTup, ev_mgN, ev_mgC, ev_mg0, ev_putL, ev_putO, ev_var, ev_vr, ev_c, ev_op, ev_un, ev_test, ev_tb, ev_notT, ev_andT, ev_orT, ev_ifE, ev_not, ev_nb, ev_and, ev_andK, ev_or, ev_orK, ev_chain, ev_chK, ev_nil, ev_cons, ev_tup, ev_lst, ev_new, ev_call, ev_cb, ev_size, ev_addI, ev_addS, ev_addT, ev_addL, ev_catO, ev_sub, ev_mul, ev_div, ev_mod, ev_p5, ev_p6, ev_p12, ev_p18, ev_p30, ev_neg, ev_ltI, ev_ltS, ev_leI, ev_leS, ev_gt, ev_ge, ev_eqI, ev_eqS, ev_neI, ev_neS, ev_neB, ev_eqB, ev_is, ev_isnot, ev_ixT, ev_ixS, ev_ixR, ev_ixL, ev_ixK, ev_getL, ev_getM, ev_gL, ev_gM, ev_at0, ev_at1, ev_at2, ev_at3, ev_at4, ev_lenS, ev_lenR, ev_lenT, ev_lenL, ev_lenO, ev_lenD, ev_abs, ev_min2, ev_max2, ev_intI, ev_intB, ev_set, ev_fc, ev_setset, ev_last, ev_appk, ev_app0, ev_setk, ev_set0, ev_assoc, ev_lapp, ev_lappA, ev_sl, ev_nopart, ev_part, ev_ptK, ev_slT, ev_slS, ev_slR, ev_slK, ev_tyN, ev_tyB, ev_tyI, ev_tyS, ev_tyT, ev_tyL, ev_tyR, ev_tyRL, ev_isi, ev_isi1, ev_isi2, ev_isi3, ev_isi4, ev_isi5, ev_isiT, ev_isi2K, ev_isTy, ev_list, ev_listK, ev_tuple, ev_tupK, ev_getST, ev_getSR, ev_getSL, ev_all, ev_allK, ev_eqXI, ev_eqXS, ev_neXI, ev_neXS, ev_neXB, ev_eqXB, ev_eqXR, ev_neXR, ev_nil2, ev_eqK, ev_neK, ev_meth, ev_meth0, ev_mth1, ev_mth2, ev_mth3, ev_append, ev_m0, ev_m0K, ev_str, ev_for, ev_miR1, ev_rg1K, ev_miL, ev_liK, ev_miT, ev_tiK, ev_lc, ev_wipe0, ev_wipeS, ev_yes, ev_lenSet, ev_lenSetK, ev_listR, ev_lrK, ev_put2, ev_p2A, ev_p2K, ev_p2E, ev_put1, ev_pt1, ev_addXI, ev_addXB, ev_addXS, ev_addXT, ev_addXL, ev_subXI, ev_subXB, ev_mulXI, ev_mulXB, ev_mulXL, ev_negXI, ev_negXB, ev_strXI, ev_strXB, ev_mulYI, ev_mulYB, ev_mulYL, ev_mulYT, ev_dnew, ev_dnewT, ev_dgetE, ev_getD, ev_gD, ev_keyI, ev_keyS, ev_dgK, ev_dinE, ev_diK, ev_dputE, ev_dpK, ev_dget2E, ev_isDA, ev_isSome, ev_isNone, ev_dg2K, ev_dpop2E, ev_dp2K, ev_dp3S, ev_dp3N, ev_sortedE, ev_srO1, ev_srO2, ev_gLd, ev_srKS, ev_srKI, ev_gDT, ev_gT, ev_tinE, ev_tiKK, ev_keysA, ev_keysN, ev_keysC, ev_dputTE, ev_dptK, ev_dispE, ev_mpN, ev_mpC, ev_pcK, ev_dsK, ev_dsK2, ev_lc2E, ev_imp, ev_simp, ev_split, ev_splF, ev_splG, ev_fmt, ev_fmtS, ev_fmtI, ev_addK, ev_js0, ev_js1, ev_joined, ev_star, ev_starK, ev_each2, ev_each2K, ev_unl, ev_unlK, ev_intS, ev_strYS, ev_strYI, ev_mjoin, ev_joinG, ev_joinK, ev_sbind, ev_miS, ev_siK, List.getElem?_cons_zero, List.getElem?_cons_succ, List.set_cons_zero, List.set_cons_succ, List.length_cons, List.length_nil, List.cons_append, List.nil_append, if_true, if_false, Bool.false_eq_true, Bool.true_eq_false, reduceIte, Bool.not_true, Bool.not_false, Bool.and_true, Bool.true_and, Bool.and_false, Bool.false_and, Bool.or_true, Bool.true_or, Bool.or_false, Bool.false_or, decide_eq_true_eq, Nat.reduceAdd, Nat.reduceLeDiff, Nat.zero_add, Int.reduceLT, Int.reduceLE, Int.reduceEq, Int.reduceNeg, Nat.reduceEqDiff, and_self, and_true, true_and, decide_true, decide_false, eq_self, ite_true, ite_false, Int.reduceSub, Int.reduceAdd, Int.cast_ofNat_Int, Int.natCast_add, Int.cast_ofNat_Int, Nat.reduceSub, Nat.add_assoc, String.reduceBEq, String.reduceEq, Bool.or_not_self, beq_self_eq_true, e, hm]
    exact ⟨[], by simp⟩
  · have ef : List.filter (fun _ : A => false) (signs x) = [] := by simp
    rw [ef]
    simp only [wp_okR, wp_okF, wp_fin, wp_next, wp_then, wp_bind, wp_nox, wp_tK, wp_bK, wp_fr, wp_fn, wp_nn, wp_nr, wp_nb, wp_nc, wp_ln, wp_lc, wp_lb, wp_lr, wp_jn, wp_jc, ev_bok, ev_bno, ev_bex, ev_tok, ev_tno, ev_tex, ev_nnx, ev_nrt, ev_nbk, ev_nct, ev_nex, ev_nno, ev_frt, ev_fnx, ev_fex, ev_xok, ev_lsome, ev_lnone, ev_seq, ev_if, ev_ret, ev_retN, ev_drop, ev_nop, ev_brk, ev_cont, ev_asgN, ev_asgT, ev_asgO, ev_mgTup, ev_mgN, ev_mgC, ev_mg0, ev_putL, ev_putO, ev_var, ev_vr, ev_c, ev_op, ev_un, ev_test, ev_tb, ev_notT, ev_andT, ev_orT, ev_ifE, ev_not, ev_nb, ev_and, ev_andK, ev_or, ev_orK, ev_chain, ev_chK, ev_nil, ev_cons, ev_tup, ev_lst, ev_new, ev_call, ev_cb, ev_size, ev_addI, ev_addS, ev_addT, ev_addL, ev_catO, ev_sub, ev_mul, ev_div, ev_mod, ev_p5, ev_p6, ev_p12, ev_p18, ev_p30, ev_neg, ev_ltI, ev_ltS, ev_leI, ev_leS, ev_gt, ev_ge, ev_eqI, ev_eqS, ev_neI, ev_neS, ev_neB, ev_eqB, ev_is, ev_isnot, ev_ixT, ev_ixS, ev_ixR, ev_ixL, ev_ixK, ev_getL, ev_getM, ev_gL, ev_gM, ev_at0, ev_at1, ev_at2, ev_at3, ev_at4, ev_lenS, ev_lenR, ev_lenT, ev_lenL, ev_lenO, ev_lenD, ev_abs, ev_min2, ev_max2, ev_intI, ev_intB, ev_set, ev_fc, ev_setset, ev_last, ev_appk, ev_app0, ev_setk, ev_set0, ev_assoc, ev_lapp, ev_lappA, ev_sl, ev_nopart, ev_part, ev_ptK, ev_slT, ev_slS, ev_slR, ev_slK, ev_tyN, ev_tyB, ev_tyI, ev_tyS, ev_tyT, ev_tyL, ev_tyR, ev_tyRL, ev_isi, ev_isi1, ev_isi2, ev_isi3, ev_isi4, ev_isi5, ev_isiT, ev_isi2K, ev_isTy, ev_list, ev_listK, ev_tuple, ev_tupK, ev_getST, ev_getSR, ev_getSL, ev_all, ev_allK, ev_eqXI, ev_eqXS, ev_neXI, ev_neXS, ev_neXB, ev_eqXB, ev_eqXR, ev_neXR, ev_nil2, ev_eqK, ev_neK, ev_meth, ev_meth0, ev_mth1, ev_mth2, ev_mth3, ev_append, ev_m0, ev_m0K, ev_str, ev_for, ev_miR1, ev_rg1K, ev_miL, ev_liK, ev_miT, ev_tiK, ev_lc, ev_wipe0, ev_wipeS, ev_yes, ev_lenSet, ev_lenSetK, ev_listR, ev_lrK, ev_put2, ev_p2A, ev_p2K, ev_p2E, ev_put1, ev_pt1, ev_addXI, ev_addXB, ev_addXS, ev_addXT, ev_addXL, ev_subXI, ev_subXB, ev_mulXI, ev_mulXB, ev_mulXL, ev_negXI, ev_negXB, ev_strXI, ev_strXB, ev_mulYI, ev_mulYB, ev_mulYL, ev_mulYT, ev_dnew, ev_dnewT, ev_dgetE, ev_getD, ev_gD, ev_keyI, ev_keyS, ev_dgK, ev_dinE, ev_diK, ev_dputE, ev_dpK, ev_dget2E, ev_isDA, ev_isSome, ev_isNone, ev_dg2K, ev_dpop2E, ev_dp2K, ev_dp3S, ev_dp3N, ev_sortedE, ev_srO1, ev_srO2, ev_gLd, ev_srKS, ev_srKI, ev_gDT, ev_gT, ev_tinE, ev_tiKK, ev_keysA, ev_keysN, ev_keysC, ev_dputTE, ev_dptK, ev_dispE, ev_mpN, ev_mpC, ev_pcK, ev_dsK, ev_dsK2, ev_lc2E, ev_imp, ev_simp, ev_split, ev_splF, ev_splG, ev_fmt, ev_fmtS, ev_fmtI, ev_addK, ev_js0, ev_js1, ev_joined, ev_star, ev_starK, ev_each2, ev_each2K, ev_unl, ev_unlK, ev_intS, ev_strYS, ev_strYI, ev_mjoin, ev_joinG, ev_joinK, ev_sbind, ev_miS, ev_siK, List.getElem?_cons_zero, List.getElem?_cons_succ, List.set_cons_zero, List.set_cons_succ, List.length_cons, List.length_nil, List.cons_append, List.nil_append, if_true, if_false, Bool.false_eq_true, Bool.true_eq_false, reduceIte, Bool.not_true, Bool.not_false, Bool.and_true, Bool.true_and, Bool.and_false, Bool.false_and, Bool.or_true, Bool.true_or, Bool.or_false, Bool.false_or, decide_eq_true_eq, Nat.reduceAdd, Nat.reduceLeDiff, Nat.zero_add, Int.reduceLT, Int.reduceLE, Int.reduceEq, Int.reduceNeg, Nat.reduceEqDiff, and_self, and_true, true_and, decide_true, decide_false, eq_self, ite_true, ite_false, Int.reduceSub, Int.reduceAdd, Int.cast_ofNat_Int, Int.natCast_add, Int.cast_ofNat_Int, Nat.reduceSub, Nat.add_assoc, String.reduceBEq, String.reduceEq, Bool.or_not_self, beq_self_eq_true, List.map_nil]
    exact ⟨rfl, _, rfl⟩
theorem lwithin_is {S : Sto} {i lo hi : Int} (h0 : lo ≤ i) (h1 : i ≤ hi) : m__law_within [.int i, .int lo, .int hi] S = .ok (.bl true) S := by
  rw [st__law_within]
  unfold b__law_within
  simp only [ev_bok, ev_bno, ev_bex, ev_tok, ev_tno, ev_tex, ev_nnx, ev_nrt, ev_nbk, ev_nct, ev_nex, ev_nno, ev_frt, ev_fnx, ev_fex, ev_xok, ev_lsome, ev_lnone, ev_seq, ev_if, ev_ret, ev_retN, ev_drop, ev_nop, ev_brk, ev_cont, ev_asgN, ev_asgT, ev_asgO, ev_mgTup, ev_mgN, ev_mgC, ev_mg0, ev_putL, ev_putO, ev_var, ev_vr, ev_c, ev_op, ev_un, ev_test, ev_tb, ev_notT, ev_andT, ev_orT, ev_ifE, ev_not, ev_nb, ev_and, ev_andK, ev_or, ev_orK, ev_chain, ev_chK, ev_nil, ev_cons, ev_tup, ev_lst, ev_new, ev_call, ev_cb, ev_size, ev_addI, ev_addS, ev_addT, ev_addL, ev_catO, ev_sub, ev_mul, ev_div, ev_mod, ev_p5, ev_p6, ev_p12, ev_p18, ev_p30, ev_neg, ev_ltI, ev_ltS, ev_leI, ev_leS, ev_gt, ev_ge, ev_eqI, ev_eqS, ev_neI, ev_neS, ev_neB, ev_eqB, ev_is, ev_isnot, ev_ixT, ev_ixS, ev_ixR, ev_ixL, ev_ixK, ev_getL, ev_getM, ev_gL, ev_gM, ev_at0, ev_at1, ev_at2, ev_at3, ev_at4, ev_lenS, ev_lenR, ev_lenT, ev_lenL, ev_lenO, ev_lenD, ev_abs, ev_min2, ev_max2, ev_intI, ev_intB, ev_set, ev_fc, ev_setset, ev_last, ev_appk, ev_app0, ev_setk, ev_set0, ev_assoc, ev_lapp, ev_lappA, ev_sl, ev_nopart, ev_part, ev_ptK, ev_slT, ev_slS, ev_slR, ev_slK, ev_tyN, ev_tyB, ev_tyI, ev_tyS, ev_tyT, ev_tyL, ev_tyR, ev_tyRL, ev_isi, ev_isi1, ev_isi2, ev_isi3, ev_isi4, ev_isi5, ev_isiT, ev_isi2K, ev_isTy, ev_list, ev_listK, ev_tuple, ev_tupK, ev_getST, ev_getSR, ev_getSL, ev_all, ev_allK, ev_eqXI, ev_eqXS, ev_neXI, ev_neXS, ev_neXB, ev_eqXB, ev_eqXR, ev_neXR, ev_nil2, ev_eqK, ev_neK, ev_meth, ev_meth0, ev_mth1, ev_mth2, ev_mth3, ev_append, ev_m0, ev_m0K, ev_str, ev_for, ev_miR1, ev_rg1K, ev_miL, ev_liK, ev_miT, ev_tiK, ev_lc, ev_wipe0, ev_wipeS, ev_yes, ev_lenSet, ev_lenSetK, ev_listR, ev_lrK, ev_put2, ev_p2A, ev_p2K, ev_p2E, ev_put1, ev_pt1, ev_addXI, ev_addXB, ev_addXS, ev_addXT, ev_addXL, ev_subXI, ev_subXB, ev_mulXI, ev_mulXB, ev_mulXL, ev_negXI, ev_negXB, ev_strXI, ev_strXB, ev_mulYI, ev_mulYB, ev_mulYL, ev_mulYT, ev_dnew, ev_dnewT, ev_dgetE, ev_getD, ev_gD, ev_keyI, ev_keyS, ev_dgK, ev_dinE, ev_diK, ev_dputE, ev_dpK, ev_dget2E, ev_isDA, ev_isSome, ev_isNone, ev_dg2K, ev_dpop2E, ev_dp2K, ev_dp3S, ev_dp3N, ev_sortedE, ev_srO1, ev_srO2, ev_gLd, ev_srKS, ev_srKI, ev_gDT, ev_gT, ev_tinE, ev_tiKK, ev_keysA, ev_keysN, ev_keysC, ev_dputTE, ev_dptK, ev_dispE, ev_mpN, ev_mpC, ev_pcK, ev_dsK, ev_dsK2, ev_lc2E, ev_imp, ev_simp, ev_split, ev_splF, ev_splG, ev_fmt, ev_fmtS, ev_fmtI, ev_addK, ev_js0, ev_js1, ev_joined, ev_star, ev_starK, ev_each2, ev_each2K, ev_unl, ev_unlK, ev_intS, ev_strYS, ev_strYI, ev_mjoin, ev_joinG, ev_joinK, ev_sbind, ev_miS, ev_siK, List.getElem?_cons_zero, List.getElem?_cons_succ, List.set_cons_zero, List.set_cons_succ, List.length_cons, List.length_nil, List.cons_append, List.nil_append, if_true, if_false, Bool.false_eq_true, Bool.true_eq_false, reduceIte, Bool.not_true, Bool.not_false, Bool.and_true, Bool.true_and, Bool.and_false, Bool.false_and, Bool.or_true, Bool.true_or, Bool.or_false, Bool.false_or, decide_eq_true_eq, Nat.reduceAdd, Nat.reduceLeDiff, Nat.zero_add, Int.reduceLT, Int.reduceLE, Int.reduceEq, Int.reduceNeg, Nat.reduceEqDiff, and_self, and_true, true_and, decide_true, decide_false, eq_self, ite_true, ite_false, Int.reduceSub, Int.reduceAdd, Int.cast_ofNat_Int, Int.natCast_add, Int.cast_ofNat_Int, Nat.reduceSub, Nat.add_assoc, String.reduceBEq, String.reduceEq, Bool.or_not_self, beq_self_eq_true, h0, h1]
theorem lareRows_wp {S : Sto} {qs : Qs} {most width : Int} (h : QsG qs) (up : (qs.map (·.1)).Pairwise fun x y => x.cps.toList < y.cps.toList) (hw : ∀ q ∈ qs, ((rowQ q).length : Int) = width) (hm : (qs.length : Int) ≤ most) : okR (m__law_are_rows [.tup ((qs.map rowQ).map A.tup), .int most, .int width] S) fun y t => y = .bl true ∧ ∃ l, t = S ++ l := by
  have h1 : 1 ≤ qs.length := by
    have := h.ne
    cases qs with
    | nil => exact absurd rfl this
    | cons a r => rw [List.length_cons]; omega
  have ll : (((qs.map rowQ).map A.tup).length : Nat) = qs.length := by rw [List.length_map, List.length_map]
  rw [st__law_are_rows]
  unfold b__law_are_rows
  have a1 : (1 : Int) ≤ (((qs.map rowQ).map A.tup).length : Nat) := by rw [ll]; omega
  have a2 : ((((qs.map rowQ).map A.tup).length : Nat) : Int) ≤ most := by rw [ll]; exact hm
  simp only [wp_okR, wp_okF, wp_fin, wp_next, wp_then, wp_bind, wp_nox, wp_tK, wp_bK, wp_fr, wp_fn, wp_nn, wp_nr, wp_nb, wp_nc, wp_ln, wp_lc, wp_lb, wp_lr, wp_jn, wp_jc, ev_bok, ev_bno, ev_bex, ev_tok, ev_tno, ev_tex, ev_nnx, ev_nrt, ev_nbk, ev_nct, ev_nex, ev_nno, ev_frt, ev_fnx, ev_fex, ev_xok, ev_lsome, ev_lnone, ev_seq, ev_if, ev_ret, ev_retN, ev_drop, ev_nop, ev_brk, ev_cont, ev_asgN, ev_asgT, ev_asgO, ev_mgTup, ev_mgN, ev_mgC, ev_mg0, ev_putL, ev_putO, ev_var, ev_vr, ev_c, ev_op, ev_un, ev_test, ev_tb, ev_notT, ev_andT, ev_orT, ev_ifE, ev_not, ev_nb, ev_and, ev_andK, ev_or, ev_orK, ev_chain, ev_chK, ev_nil, ev_cons, ev_tup, ev_lst, ev_new, ev_call, ev_cb, ev_size, ev_addI, ev_addS, ev_addT, ev_addL, ev_catO, ev_sub, ev_mul, ev_div, ev_mod, ev_p5, ev_p6, ev_p12, ev_p18, ev_p30, ev_neg, ev_ltI, ev_ltS, ev_leI, ev_leS, ev_gt, ev_ge, ev_eqI, ev_eqS, ev_neI, ev_neS, ev_neB, ev_eqB, ev_is, ev_isnot, ev_ixT, ev_ixS, ev_ixR, ev_ixL, ev_ixK, ev_getL, ev_getM, ev_gL, ev_gM, ev_at0, ev_at1, ev_at2, ev_at3, ev_at4, ev_lenS, ev_lenR, ev_lenT, ev_lenL, ev_lenO, ev_lenD, ev_abs, ev_min2, ev_max2, ev_intI, ev_intB, ev_set, ev_fc, ev_setset, ev_last, ev_appk, ev_app0, ev_setk, ev_set0, ev_assoc, ev_lapp, ev_lappA, ev_sl, ev_nopart, ev_part, ev_ptK, ev_slT, ev_slS, ev_slR, ev_slK, ev_tyN, ev_tyB, ev_tyI, ev_tyS, ev_tyT, ev_tyL, ev_tyR, ev_tyRL, ev_isi, ev_isi1, ev_isi2, ev_isi3, ev_isi4, ev_isi5, ev_isiT, ev_isi2K, ev_isTy, ev_list, ev_listK, ev_tuple, ev_tupK, ev_getST, ev_getSR, ev_getSL, ev_all, ev_allK, ev_eqXI, ev_eqXS, ev_neXI, ev_neXS, ev_neXB, ev_eqXB, ev_eqXR, ev_neXR, ev_nil2, ev_eqK, ev_neK, ev_meth, ev_meth0, ev_mth1, ev_mth2, ev_mth3, ev_append, ev_m0, ev_m0K, ev_str, ev_for, ev_miR1, ev_rg1K, ev_miL, ev_liK, ev_miT, ev_tiK, ev_lc, ev_wipe0, ev_wipeS, ev_yes, ev_lenSet, ev_lenSetK, ev_listR, ev_lrK, ev_put2, ev_p2A, ev_p2K, ev_p2E, ev_put1, ev_pt1, ev_addXI, ev_addXB, ev_addXS, ev_addXT, ev_addXL, ev_subXI, ev_subXB, ev_mulXI, ev_mulXB, ev_mulXL, ev_negXI, ev_negXB, ev_strXI, ev_strXB, ev_mulYI, ev_mulYB, ev_mulYL, ev_mulYT, ev_dnew, ev_dnewT, ev_dgetE, ev_getD, ev_gD, ev_keyI, ev_keyS, ev_dgK, ev_dinE, ev_diK, ev_dputE, ev_dpK, ev_dget2E, ev_isDA, ev_isSome, ev_isNone, ev_dg2K, ev_dpop2E, ev_dp2K, ev_dp3S, ev_dp3N, ev_sortedE, ev_srO1, ev_srO2, ev_gLd, ev_srKS, ev_srKI, ev_gDT, ev_gT, ev_tinE, ev_tiKK, ev_keysA, ev_keysN, ev_keysC, ev_dputTE, ev_dptK, ev_dispE, ev_mpN, ev_mpC, ev_pcK, ev_dsK, ev_dsK2, ev_lc2E, ev_imp, ev_simp, ev_split, ev_splF, ev_splG, ev_fmt, ev_fmtS, ev_fmtI, ev_addK, ev_js0, ev_js1, ev_joined, ev_star, ev_starK, ev_each2, ev_each2K, ev_unl, ev_unlK, ev_intS, ev_strYS, ev_strYI, ev_mjoin, ev_joinG, ev_joinK, ev_sbind, ev_miS, ev_siK, List.getElem?_cons_zero, List.getElem?_cons_succ, List.set_cons_zero, List.set_cons_succ, List.length_cons, List.length_nil, List.cons_append, List.nil_append, if_true, if_false, Bool.false_eq_true, Bool.true_eq_false, reduceIte, Bool.not_true, Bool.not_false, Bool.and_true, Bool.true_and, Bool.and_false, Bool.false_and, Bool.or_true, Bool.true_or, Bool.or_false, Bool.false_or, decide_eq_true_eq, Nat.reduceAdd, Nat.reduceLeDiff, Nat.zero_add, Int.reduceLT, Int.reduceLE, Int.reduceEq, Int.reduceNeg, Nat.reduceEqDiff, and_self, and_true, true_and, decide_true, decide_false, eq_self, ite_true, ite_false, Int.reduceSub, Int.reduceAdd, Int.cast_ofNat_Int, Int.natCast_add, Int.cast_ofNat_Int, Nat.reduceSub, Nat.add_assoc, String.reduceBEq, String.reduceEq, Bool.or_not_self, beq_self_eq_true, a1, a2]
  refine forL_wp (j := 0) (fun i env s => ∃ z4 last, env = [some (A.tup ((qs.map rowQ).map A.tup)), some (A.int most), some (A.int width), some (.str last), z4] ∧ (∀ q, qs[i]? = some q → last.cps.toList < q.1.cps.toList) ∧ ∃ l, s = S ++ l) (fun i env s hh => ?_) ⟨none, Str.ofString "", rfl, fun q hq => ?_, [], by simp⟩ (fun i x env s hx hh => ?_) (fun env s hh => ?_)
  · trivial
  · have hn := h.nm q (List.mem_of_getElem? hq)
    have e0 : (Str.ofString "").cps.toList = [] := rfl
    rw [e0]
    have cl : q.1.cps.toList.length = q.1.length := by simp [Str.length]
    cases hc : q.1.cps.toList with
    | nil =>
      rw [hc] at cl
      have cl : 0 = q.1.length := cl
      have := hn.1
      omega
    | cons a r => exact List.nil_lt_cons a r
  · obtain ⟨q, eq, rfl⟩ : ∃ q, qs[i]? = some q ∧ x = .tup (rowQ q) := by
      rw [List.getElem?_map, List.getElem?_map] at hx
      cases hq : qs[i]? with
      | none => rw [hq] at hx; cases hx
      | some q => rw [hq] at hx; cases hx; exact ⟨q, rfl, rfl⟩
    have mq := List.mem_of_getElem? eq
    obtain ⟨z4, last, rfl, hl, k, rfl⟩ := hh
    have lt := hl q (by rw [Nat.zero_add]; exact eq)
    have lw := hw q mq
    have hn := h.nm q mq
    have at0 : atI (rowQ q) 0 = some (.str q.1) := at0_is _ _
    refine ⟨_, rfl, ?_⟩
    unfold lb__law_are_rows_1
    simp only [wp_okR, wp_okF, wp_fin, wp_next, wp_then, wp_bind, wp_nox, wp_tK, wp_bK, wp_fr, wp_fn, wp_nn, wp_nr, wp_nb, wp_nc, wp_ln, wp_lc, wp_lb, wp_lr, wp_jn, wp_jc, ev_bok, ev_bno, ev_bex, ev_tok, ev_tno, ev_tex, ev_nnx, ev_nrt, ev_nbk, ev_nct, ev_nex, ev_nno, ev_frt, ev_fnx, ev_fex, ev_xok, ev_lsome, ev_lnone, ev_seq, ev_if, ev_ret, ev_retN, ev_drop, ev_nop, ev_brk, ev_cont, ev_asgN, ev_asgT, ev_asgO, ev_mgTup, ev_mgN, ev_mgC, ev_mg0, ev_putL, ev_putO, ev_var, ev_vr, ev_c, ev_op, ev_un, ev_test, ev_tb, ev_notT, ev_andT, ev_orT, ev_ifE, ev_not, ev_nb, ev_and, ev_andK, ev_or, ev_orK, ev_chain, ev_chK, ev_nil, ev_cons, ev_tup, ev_lst, ev_new, ev_call, ev_cb, ev_size, ev_addI, ev_addS, ev_addT, ev_addL, ev_catO, ev_sub, ev_mul, ev_div, ev_mod, ev_p5, ev_p6, ev_p12, ev_p18, ev_p30, ev_neg, ev_ltI, ev_ltS, ev_leI, ev_leS, ev_gt, ev_ge, ev_eqI, ev_eqS, ev_neI, ev_neS, ev_neB, ev_eqB, ev_is, ev_isnot, ev_ixT, ev_ixS, ev_ixR, ev_ixL, ev_ixK, ev_getL, ev_getM, ev_gL, ev_gM, ev_at0, ev_at1, ev_at2, ev_at3, ev_at4, ev_lenS, ev_lenR, ev_lenT, ev_lenL, ev_lenO, ev_lenD, ev_abs, ev_min2, ev_max2, ev_intI, ev_intB, ev_set, ev_fc, ev_setset, ev_last, ev_appk, ev_app0, ev_setk, ev_set0, ev_assoc, ev_lapp, ev_lappA, ev_sl, ev_nopart, ev_part, ev_ptK, ev_slT, ev_slS, ev_slR, ev_slK, ev_tyN, ev_tyB, ev_tyI, ev_tyS, ev_tyT, ev_tyL, ev_tyR, ev_tyRL, ev_isi, ev_isi1, ev_isi2, ev_isi3, ev_isi4, ev_isi5, ev_isiT, ev_isi2K, ev_isTy, ev_list, ev_listK, ev_tuple, ev_tupK, ev_getST, ev_getSR, ev_getSL, ev_all, ev_allK, ev_eqXI, ev_eqXS, ev_neXI, ev_neXS, ev_neXB, ev_eqXB, ev_eqXR, ev_neXR, ev_nil2, ev_eqK, ev_neK, ev_meth, ev_meth0, ev_mth1, ev_mth2, ev_mth3, ev_append, ev_m0, ev_m0K, ev_str, ev_for, ev_miR1, ev_rg1K, ev_miL, ev_liK, ev_miT, ev_tiK, ev_lc, ev_wipe0, ev_wipeS, ev_yes, ev_lenSet, ev_lenSetK, ev_listR, ev_lrK, ev_put2, ev_p2A, ev_p2K, ev_p2E, ev_put1, ev_pt1, ev_addXI, ev_addXB, ev_addXS, ev_addXT, ev_addXL, ev_subXI, ev_subXB, ev_mulXI, ev_mulXB, ev_mulXL, ev_negXI, ev_negXB, ev_strXI, ev_strXB, ev_mulYI, ev_mulYB, ev_mulYL, ev_mulYT, ev_dnew, ev_dnewT, ev_dgetE, ev_getD, ev_gD, ev_keyI, ev_keyS, ev_dgK, ev_dinE, ev_diK, ev_dputE, ev_dpK, ev_dget2E, ev_isDA, ev_isSome, ev_isNone, ev_dg2K, ev_dpop2E, ev_dp2K, ev_dp3S, ev_dp3N, ev_sortedE, ev_srO1, ev_srO2, ev_gLd, ev_srKS, ev_srKI, ev_gDT, ev_gT, ev_tinE, ev_tiKK, ev_keysA, ev_keysN, ev_keysC, ev_dputTE, ev_dptK, ev_dispE, ev_mpN, ev_mpC, ev_pcK, ev_dsK, ev_dsK2, ev_lc2E, ev_imp, ev_simp, ev_split, ev_splF, ev_splG, ev_fmt, ev_fmtS, ev_fmtI, ev_addK, ev_js0, ev_js1, ev_joined, ev_star, ev_starK, ev_each2, ev_each2K, ev_unl, ev_unlK, ev_intS, ev_strYS, ev_strYI, ev_mjoin, ev_joinG, ev_joinK, ev_sbind, ev_miS, ev_siK, List.getElem?_cons_zero, List.getElem?_cons_succ, List.set_cons_zero, List.set_cons_succ, List.length_cons, List.length_nil, List.cons_append, List.nil_append, if_true, if_false, Bool.false_eq_true, Bool.true_eq_false, reduceIte, Bool.not_true, Bool.not_false, Bool.and_true, Bool.true_and, Bool.and_false, Bool.false_and, Bool.or_true, Bool.true_or, Bool.or_false, Bool.false_or, decide_eq_true_eq, Nat.reduceAdd, Nat.reduceLeDiff, Nat.zero_add, Int.reduceLT, Int.reduceLE, Int.reduceEq, Int.reduceNeg, Nat.reduceEqDiff, and_self, and_true, true_and, decide_true, decide_false, eq_self, ite_true, ite_false, Int.reduceSub, Int.reduceAdd, Int.cast_ofNat_Int, Int.natCast_add, Int.cast_ofNat_Int, Nat.reduceSub, Nat.add_assoc, String.reduceBEq, String.reduceEq, Bool.or_not_self, beq_self_eq_true, at0, lw]
    refine okR_use (lisName_wp hn) fun a s hh => ?_
    obtain ⟨rfl, k2, rfl⟩ := hh
    simp only [wp_okR, wp_okF, wp_fin, wp_next, wp_then, wp_bind, wp_nox, wp_tK, wp_bK, wp_fr, wp_fn, wp_nn, wp_nr, wp_nb, wp_nc, wp_ln, wp_lc, wp_lb, wp_lr, wp_jn, wp_jc, ev_bok, ev_bno, ev_bex, ev_tok, ev_tno, ev_tex, ev_nnx, ev_nrt, ev_nbk, ev_nct, ev_nex, ev_nno, ev_frt, ev_fnx, ev_fex, ev_xok, ev_lsome, ev_lnone, ev_seq, ev_if, ev_ret, ev_retN, ev_drop, ev_nop, ev_brk, ev_cont, ev_asgN, ev_asgT, ev_asgO, ev_mgTup, ev_mgN, ev_mgC, ev_mg0, ev_putL, ev_putO, ev_var, ev_vr, ev_c, ev_op, ev_un, ev_test, ev_tb, ev_notT, ev_andT, ev_orT, ev_ifE, ev_not, ev_nb, ev_and, ev_andK, ev_or, ev_orK, ev_chain, ev_chK, ev_nil, ev_cons, ev_tup, ev_lst, ev_new, ev_call, ev_cb, ev_size, ev_addI, ev_addS, ev_addT, ev_addL, ev_catO, ev_sub, ev_mul, ev_div, ev_mod, ev_p5, ev_p6, ev_p12, ev_p18, ev_p30, ev_neg, ev_ltI, ev_ltS, ev_leI, ev_leS, ev_gt, ev_ge, ev_eqI, ev_eqS, ev_neI, ev_neS, ev_neB, ev_eqB, ev_is, ev_isnot, ev_ixT, ev_ixS, ev_ixR, ev_ixL, ev_ixK, ev_getL, ev_getM, ev_gL, ev_gM, ev_at0, ev_at1, ev_at2, ev_at3, ev_at4, ev_lenS, ev_lenR, ev_lenT, ev_lenL, ev_lenO, ev_lenD, ev_abs, ev_min2, ev_max2, ev_intI, ev_intB, ev_set, ev_fc, ev_setset, ev_last, ev_appk, ev_app0, ev_setk, ev_set0, ev_assoc, ev_lapp, ev_lappA, ev_sl, ev_nopart, ev_part, ev_ptK, ev_slT, ev_slS, ev_slR, ev_slK, ev_tyN, ev_tyB, ev_tyI, ev_tyS, ev_tyT, ev_tyL, ev_tyR, ev_tyRL, ev_isi, ev_isi1, ev_isi2, ev_isi3, ev_isi4, ev_isi5, ev_isiT, ev_isi2K, ev_isTy, ev_list, ev_listK, ev_tuple, ev_tupK, ev_getST, ev_getSR, ev_getSL, ev_all, ev_allK, ev_eqXI, ev_eqXS, ev_neXI, ev_neXS, ev_neXB, ev_eqXB, ev_eqXR, ev_neXR, ev_nil2, ev_eqK, ev_neK, ev_meth, ev_meth0, ev_mth1, ev_mth2, ev_mth3, ev_append, ev_m0, ev_m0K, ev_str, ev_for, ev_miR1, ev_rg1K, ev_miL, ev_liK, ev_miT, ev_tiK, ev_lc, ev_wipe0, ev_wipeS, ev_yes, ev_lenSet, ev_lenSetK, ev_listR, ev_lrK, ev_put2, ev_p2A, ev_p2K, ev_p2E, ev_put1, ev_pt1, ev_addXI, ev_addXB, ev_addXS, ev_addXT, ev_addXL, ev_subXI, ev_subXB, ev_mulXI, ev_mulXB, ev_mulXL, ev_negXI, ev_negXB, ev_strXI, ev_strXB, ev_mulYI, ev_mulYB, ev_mulYL, ev_mulYT, ev_dnew, ev_dnewT, ev_dgetE, ev_getD, ev_gD, ev_keyI, ev_keyS, ev_dgK, ev_dinE, ev_diK, ev_dputE, ev_dpK, ev_dget2E, ev_isDA, ev_isSome, ev_isNone, ev_dg2K, ev_dpop2E, ev_dp2K, ev_dp3S, ev_dp3N, ev_sortedE, ev_srO1, ev_srO2, ev_gLd, ev_srKS, ev_srKI, ev_gDT, ev_gT, ev_tinE, ev_tiKK, ev_keysA, ev_keysN, ev_keysC, ev_dputTE, ev_dptK, ev_dispE, ev_mpN, ev_mpC, ev_pcK, ev_dsK, ev_dsK2, ev_lc2E, ev_imp, ev_simp, ev_split, ev_splF, ev_splG, ev_fmt, ev_fmtS, ev_fmtI, ev_addK, ev_js0, ev_js1, ev_joined, ev_star, ev_starK, ev_each2, ev_each2K, ev_unl, ev_unlK, ev_intS, ev_strYS, ev_strYI, ev_mjoin, ev_joinG, ev_joinK, ev_sbind, ev_miS, ev_siK, List.getElem?_cons_zero, List.getElem?_cons_succ, List.set_cons_zero, List.set_cons_succ, List.length_cons, List.length_nil, List.cons_append, List.nil_append, if_true, if_false, Bool.false_eq_true, Bool.true_eq_false, reduceIte, Bool.not_true, Bool.not_false, Bool.and_true, Bool.true_and, Bool.and_false, Bool.false_and, Bool.or_true, Bool.true_or, Bool.or_false, Bool.false_or, decide_eq_true_eq, Nat.reduceAdd, Nat.reduceLeDiff, Nat.zero_add, Int.reduceLT, Int.reduceLE, Int.reduceEq, Int.reduceNeg, Nat.reduceEqDiff, and_self, and_true, true_and, decide_true, decide_false, eq_self, ite_true, ite_false, Int.reduceSub, Int.reduceAdd, Int.cast_ofNat_Int, Int.natCast_add, Int.cast_ofNat_Int, Nat.reduceSub, Nat.add_assoc, String.reduceBEq, String.reduceEq, Bool.or_not_self, beq_self_eq_true, at0, lt]
    refine ⟨_, _, rfl, ?_, ?_⟩
    · intro q' hq'
      have hq' : qs[i + 1]? = some q' := by simpa using hq'
      obtain ⟨b1, e1⟩ := List.getElem?_eq_some_iff.mp eq
      obtain ⟨b2, e2⟩ := List.getElem?_eq_some_iff.mp hq'
      have := List.pairwise_iff_getElem.mp up i (i + 1) (by rw [List.length_map]; exact b1) (by rw [List.length_map]; exact b2) (by omega)
      simp only [List.getElem_map, e1, e2] at this
      exact this
    · exact ⟨_, rfl⟩
  · obtain ⟨z4, last, rfl, hl, k, rfl⟩ := hh
    simp only [wp_okR, wp_okF, wp_fin, wp_next, wp_then, wp_bind, wp_nox, wp_tK, wp_bK, wp_fr, wp_fn, wp_nn, wp_nr, wp_nb, wp_nc, wp_ln, wp_lc, wp_lb, wp_lr, wp_jn, wp_jc, ev_bok, ev_bno, ev_bex, ev_tok, ev_tno, ev_tex, ev_nnx, ev_nrt, ev_nbk, ev_nct, ev_nex, ev_nno, ev_frt, ev_fnx, ev_fex, ev_xok, ev_lsome, ev_lnone, ev_seq, ev_if, ev_ret, ev_retN, ev_drop, ev_nop, ev_brk, ev_cont, ev_asgN, ev_asgT, ev_asgO, ev_mgTup, ev_mgN, ev_mgC, ev_mg0, ev_putL, ev_putO, ev_var, ev_vr, ev_c, ev_op, ev_un, ev_test, ev_tb, ev_notT, ev_andT, ev_orT, ev_ifE, ev_not, ev_nb, ev_and, ev_andK, ev_or, ev_orK, ev_chain, ev_chK, ev_nil, ev_cons, ev_tup, ev_lst, ev_new, ev_call, ev_cb, ev_size, ev_addI, ev_addS, ev_addT, ev_addL, ev_catO, ev_sub, ev_mul, ev_div, ev_mod, ev_p5, ev_p6, ev_p12, ev_p18, ev_p30, ev_neg, ev_ltI, ev_ltS, ev_leI, ev_leS, ev_gt, ev_ge, ev_eqI, ev_eqS, ev_neI, ev_neS, ev_neB, ev_eqB, ev_is, ev_isnot, ev_ixT, ev_ixS, ev_ixR, ev_ixL, ev_ixK, ev_getL, ev_getM, ev_gL, ev_gM, ev_at0, ev_at1, ev_at2, ev_at3, ev_at4, ev_lenS, ev_lenR, ev_lenT, ev_lenL, ev_lenO, ev_lenD, ev_abs, ev_min2, ev_max2, ev_intI, ev_intB, ev_set, ev_fc, ev_setset, ev_last, ev_appk, ev_app0, ev_setk, ev_set0, ev_assoc, ev_lapp, ev_lappA, ev_sl, ev_nopart, ev_part, ev_ptK, ev_slT, ev_slS, ev_slR, ev_slK, ev_tyN, ev_tyB, ev_tyI, ev_tyS, ev_tyT, ev_tyL, ev_tyR, ev_tyRL, ev_isi, ev_isi1, ev_isi2, ev_isi3, ev_isi4, ev_isi5, ev_isiT, ev_isi2K, ev_isTy, ev_list, ev_listK, ev_tuple, ev_tupK, ev_getST, ev_getSR, ev_getSL, ev_all, ev_allK, ev_eqXI, ev_eqXS, ev_neXI, ev_neXS, ev_neXB, ev_eqXB, ev_eqXR, ev_neXR, ev_nil2, ev_eqK, ev_neK, ev_meth, ev_meth0, ev_mth1, ev_mth2, ev_mth3, ev_append, ev_m0, ev_m0K, ev_str, ev_for, ev_miR1, ev_rg1K, ev_miL, ev_liK, ev_miT, ev_tiK, ev_lc, ev_wipe0, ev_wipeS, ev_yes, ev_lenSet, ev_lenSetK, ev_listR, ev_lrK, ev_put2, ev_p2A, ev_p2K, ev_p2E, ev_put1, ev_pt1, ev_addXI, ev_addXB, ev_addXS, ev_addXT, ev_addXL, ev_subXI, ev_subXB, ev_mulXI, ev_mulXB, ev_mulXL, ev_negXI, ev_negXB, ev_strXI, ev_strXB, ev_mulYI, ev_mulYB, ev_mulYL, ev_mulYT, ev_dnew, ev_dnewT, ev_dgetE, ev_getD, ev_gD, ev_keyI, ev_keyS, ev_dgK, ev_dinE, ev_diK, ev_dputE, ev_dpK, ev_dget2E, ev_isDA, ev_isSome, ev_isNone, ev_dg2K, ev_dpop2E, ev_dp2K, ev_dp3S, ev_dp3N, ev_sortedE, ev_srO1, ev_srO2, ev_gLd, ev_srKS, ev_srKI, ev_gDT, ev_gT, ev_tinE, ev_tiKK, ev_keysA, ev_keysN, ev_keysC, ev_dputTE, ev_dptK, ev_dispE, ev_mpN, ev_mpC, ev_pcK, ev_dsK, ev_dsK2, ev_lc2E, ev_imp, ev_simp, ev_split, ev_splF, ev_splG, ev_fmt, ev_fmtS, ev_fmtI, ev_addK, ev_js0, ev_js1, ev_joined, ev_star, ev_starK, ev_each2, ev_each2K, ev_unl, ev_unlK, ev_intS, ev_strYS, ev_strYI, ev_mjoin, ev_joinG, ev_joinK, ev_sbind, ev_miS, ev_siK, List.getElem?_cons_zero, List.getElem?_cons_succ, List.set_cons_zero, List.set_cons_succ, List.length_cons, List.length_nil, List.cons_append, List.nil_append, if_true, if_false, Bool.false_eq_true, Bool.true_eq_false, reduceIte, Bool.not_true, Bool.not_false, Bool.and_true, Bool.true_and, Bool.and_false, Bool.false_and, Bool.or_true, Bool.true_or, Bool.or_false, Bool.false_or, decide_eq_true_eq, Nat.reduceAdd, Nat.reduceLeDiff, Nat.zero_add, Int.reduceLT, Int.reduceLE, Int.reduceEq, Int.reduceNeg, Nat.reduceEqDiff, and_self, and_true, true_and, decide_true, decide_false, eq_self, ite_true, ite_false, Int.reduceSub, Int.reduceAdd, Int.cast_ofNat_Int, Int.natCast_add, Int.cast_ofNat_Int, Nat.reduceSub, Nat.add_assoc, String.reduceBEq, String.reduceEq, Bool.or_not_self, beq_self_eq_true]
    exact ⟨_, rfl⟩
theorem lisSetup_wp {S : Sto} {fs : List (Str × Int)} {cs : List (Str × Int × Int)} {l d : Int} (h : SetG fs cs l d) : okR (m__law_is_setup [setA fs cs l d] S) fun y t => y = .bl true ∧ ∃ l, t = S ++ l := by
  obtain ⟨q1, q2⟩ := qs_good h
  have f3 := h.f3
  have c4 := h.c4
  have u1 : ((fs.map fQ).map (·.1)) = fs.map (·.1) := by rw [List.map_map]; rfl
  have u2 : ((cs.map cQ).map (·.1)) = cs.map (·.1) := by rw [List.map_map]; rfl
  have r1 := fun S => lareRows_wp (S := S) (most := 3) (width := 2) q1 (by rw [u1]; exact h.fn.up) (fun q hq => by obtain ⟨p, _, rfl⟩ := List.mem_map.mp hq; rfl) (by rw [List.length_map]; omega)
  have r2 := fun S => lareRows_wp (S := S) (most := 4) (width := 3) q2 (by rw [u2]; exact h.cn.up) (fun q hq => by obtain ⟨p, _, rfl⟩ := List.mem_map.mp hq; rfl) (by rw [List.length_map]; omega)
  simp only [← fQ_is] at r1
  simp only [← cQ_is] at r2
  have i0 : ∀ a b c d : A, atI [a, b, c, d] 0 = some a := fun _ _ _ _ => rfl
  have i1 : ∀ a b c d : A, atI [a, b, c, d] 1 = some b := fun _ _ _ _ => rfl
  have i2 : ∀ a b c d : A, atI [a, b, c, d] 2 = some c := fun _ _ _ _ => rfl
  have i3 : ∀ a b c d : A, atI [a, b, c, d] 3 = some d := fun _ _ _ _ => rfl
  rw [setA_is, st__law_is_setup]
  unfold b__law_is_setup
  simp only [wp_okR, wp_okF, wp_fin, wp_next, wp_then, wp_bind, wp_nox, wp_tK, wp_bK, wp_fr, wp_fn, wp_nn, wp_nr, wp_nb, wp_nc, wp_ln, wp_lc, wp_lb, wp_lr, wp_jn, wp_jc, ev_bok, ev_bno, ev_bex, ev_tok, ev_tno, ev_tex, ev_nnx, ev_nrt, ev_nbk, ev_nct, ev_nex, ev_nno, ev_frt, ev_fnx, ev_fex, ev_xok, ev_lsome, ev_lnone, ev_seq, ev_if, ev_ret, ev_retN, ev_drop, ev_nop, ev_brk, ev_cont, ev_asgN, ev_asgT, ev_asgO, ev_mgTup, ev_mgN, ev_mgC, ev_mg0, ev_putL, ev_putO, ev_var, ev_vr, ev_c, ev_op, ev_un, ev_test, ev_tb, ev_notT, ev_andT, ev_orT, ev_ifE, ev_not, ev_nb, ev_and, ev_andK, ev_or, ev_orK, ev_chain, ev_chK, ev_nil, ev_cons, ev_tup, ev_lst, ev_new, ev_call, ev_cb, ev_size, ev_addI, ev_addS, ev_addT, ev_addL, ev_catO, ev_sub, ev_mul, ev_div, ev_mod, ev_p5, ev_p6, ev_p12, ev_p18, ev_p30, ev_neg, ev_ltI, ev_ltS, ev_leI, ev_leS, ev_gt, ev_ge, ev_eqI, ev_eqS, ev_neI, ev_neS, ev_neB, ev_eqB, ev_is, ev_isnot, ev_ixT, ev_ixS, ev_ixR, ev_ixL, ev_ixK, ev_getL, ev_getM, ev_gL, ev_gM, ev_at0, ev_at1, ev_at2, ev_at3, ev_at4, ev_lenS, ev_lenR, ev_lenT, ev_lenL, ev_lenO, ev_lenD, ev_abs, ev_min2, ev_max2, ev_intI, ev_intB, ev_set, ev_fc, ev_setset, ev_last, ev_appk, ev_app0, ev_setk, ev_set0, ev_assoc, ev_lapp, ev_lappA, ev_sl, ev_nopart, ev_part, ev_ptK, ev_slT, ev_slS, ev_slR, ev_slK, ev_tyN, ev_tyB, ev_tyI, ev_tyS, ev_tyT, ev_tyL, ev_tyR, ev_tyRL, ev_isi, ev_isi1, ev_isi2, ev_isi3, ev_isi4, ev_isi5, ev_isiT, ev_isi2K, ev_isTy, ev_list, ev_listK, ev_tuple, ev_tupK, ev_getST, ev_getSR, ev_getSL, ev_all, ev_allK, ev_eqXI, ev_eqXS, ev_neXI, ev_neXS, ev_neXB, ev_eqXB, ev_eqXR, ev_neXR, ev_nil2, ev_eqK, ev_neK, ev_meth, ev_meth0, ev_mth1, ev_mth2, ev_mth3, ev_append, ev_m0, ev_m0K, ev_str, ev_for, ev_miR1, ev_rg1K, ev_miL, ev_liK, ev_miT, ev_tiK, ev_lc, ev_wipe0, ev_wipeS, ev_yes, ev_lenSet, ev_lenSetK, ev_listR, ev_lrK, ev_put2, ev_p2A, ev_p2K, ev_p2E, ev_put1, ev_pt1, ev_addXI, ev_addXB, ev_addXS, ev_addXT, ev_addXL, ev_subXI, ev_subXB, ev_mulXI, ev_mulXB, ev_mulXL, ev_negXI, ev_negXB, ev_strXI, ev_strXB, ev_mulYI, ev_mulYB, ev_mulYL, ev_mulYT, ev_dnew, ev_dnewT, ev_dgetE, ev_getD, ev_gD, ev_keyI, ev_keyS, ev_dgK, ev_dinE, ev_diK, ev_dputE, ev_dpK, ev_dget2E, ev_isDA, ev_isSome, ev_isNone, ev_dg2K, ev_dpop2E, ev_dp2K, ev_dp3S, ev_dp3N, ev_sortedE, ev_srO1, ev_srO2, ev_gLd, ev_srKS, ev_srKI, ev_gDT, ev_gT, ev_tinE, ev_tiKK, ev_keysA, ev_keysN, ev_keysC, ev_dputTE, ev_dptK, ev_dispE, ev_mpN, ev_mpC, ev_pcK, ev_dsK, ev_dsK2, ev_lc2E, ev_imp, ev_simp, ev_split, ev_splF, ev_splG, ev_fmt, ev_fmtS, ev_fmtI, ev_addK, ev_js0, ev_js1, ev_joined, ev_star, ev_starK, ev_each2, ev_each2K, ev_unl, ev_unlK, ev_intS, ev_strYS, ev_strYI, ev_mjoin, ev_joinG, ev_joinK, ev_sbind, ev_miS, ev_siK, List.getElem?_cons_zero, List.getElem?_cons_succ, List.set_cons_zero, List.set_cons_succ, List.length_cons, List.length_nil, List.cons_append, List.nil_append, if_true, if_false, Bool.false_eq_true, Bool.true_eq_false, reduceIte, Bool.not_true, Bool.not_false, Bool.and_true, Bool.true_and, Bool.and_false, Bool.false_and, Bool.or_true, Bool.true_or, Bool.or_false, Bool.false_or, decide_eq_true_eq, Nat.reduceAdd, Nat.reduceLeDiff, Nat.zero_add, Int.reduceLT, Int.reduceLE, Int.reduceEq, Int.reduceNeg, Nat.reduceEqDiff, and_self, and_true, true_and, decide_true, decide_false, eq_self, ite_true, ite_false, Int.reduceSub, Int.reduceAdd, Int.cast_ofNat_Int, Int.natCast_add, Int.cast_ofNat_Int, Nat.reduceSub, Nat.add_assoc, String.reduceBEq, String.reduceEq, Bool.or_not_self, beq_self_eq_true, i0, i1]
  refine okR_use (r1 _) fun a s hh => ?_
  obtain ⟨rfl, k1, rfl⟩ := hh
  simp only [wp_okR, wp_okF, wp_fin, wp_next, wp_then, wp_bind, wp_nox, wp_tK, wp_bK, wp_fr, wp_fn, wp_nn, wp_nr, wp_nb, wp_nc, wp_ln, wp_lc, wp_lb, wp_lr, wp_jn, wp_jc, ev_bok, ev_bno, ev_bex, ev_tok, ev_tno, ev_tex, ev_nnx, ev_nrt, ev_nbk, ev_nct, ev_nex, ev_nno, ev_frt, ev_fnx, ev_fex, ev_xok, ev_lsome, ev_lnone, ev_seq, ev_if, ev_ret, ev_retN, ev_drop, ev_nop, ev_brk, ev_cont, ev_asgN, ev_asgT, ev_asgO, ev_mgTup, ev_mgN, ev_mgC, ev_mg0, ev_putL, ev_putO, ev_var, ev_vr, ev_c, ev_op, ev_un, ev_test, ev_tb, ev_notT, ev_andT, ev_orT, ev_ifE, ev_not, ev_nb, ev_and, ev_andK, ev_or, ev_orK, ev_chain, ev_chK, ev_nil, ev_cons, ev_tup, ev_lst, ev_new, ev_call, ev_cb, ev_size, ev_addI, ev_addS, ev_addT, ev_addL, ev_catO, ev_sub, ev_mul, ev_div, ev_mod, ev_p5, ev_p6, ev_p12, ev_p18, ev_p30, ev_neg, ev_ltI, ev_ltS, ev_leI, ev_leS, ev_gt, ev_ge, ev_eqI, ev_eqS, ev_neI, ev_neS, ev_neB, ev_eqB, ev_is, ev_isnot, ev_ixT, ev_ixS, ev_ixR, ev_ixL, ev_ixK, ev_getL, ev_getM, ev_gL, ev_gM, ev_at0, ev_at1, ev_at2, ev_at3, ev_at4, ev_lenS, ev_lenR, ev_lenT, ev_lenL, ev_lenO, ev_lenD, ev_abs, ev_min2, ev_max2, ev_intI, ev_intB, ev_set, ev_fc, ev_setset, ev_last, ev_appk, ev_app0, ev_setk, ev_set0, ev_assoc, ev_lapp, ev_lappA, ev_sl, ev_nopart, ev_part, ev_ptK, ev_slT, ev_slS, ev_slR, ev_slK, ev_tyN, ev_tyB, ev_tyI, ev_tyS, ev_tyT, ev_tyL, ev_tyR, ev_tyRL, ev_isi, ev_isi1, ev_isi2, ev_isi3, ev_isi4, ev_isi5, ev_isiT, ev_isi2K, ev_isTy, ev_list, ev_listK, ev_tuple, ev_tupK, ev_getST, ev_getSR, ev_getSL, ev_all, ev_allK, ev_eqXI, ev_eqXS, ev_neXI, ev_neXS, ev_neXB, ev_eqXB, ev_eqXR, ev_neXR, ev_nil2, ev_eqK, ev_neK, ev_meth, ev_meth0, ev_mth1, ev_mth2, ev_mth3, ev_append, ev_m0, ev_m0K, ev_str, ev_for, ev_miR1, ev_rg1K, ev_miL, ev_liK, ev_miT, ev_tiK, ev_lc, ev_wipe0, ev_wipeS, ev_yes, ev_lenSet, ev_lenSetK, ev_listR, ev_lrK, ev_put2, ev_p2A, ev_p2K, ev_p2E, ev_put1, ev_pt1, ev_addXI, ev_addXB, ev_addXS, ev_addXT, ev_addXL, ev_subXI, ev_subXB, ev_mulXI, ev_mulXB, ev_mulXL, ev_negXI, ev_negXB, ev_strXI, ev_strXB, ev_mulYI, ev_mulYB, ev_mulYL, ev_mulYT, ev_dnew, ev_dnewT, ev_dgetE, ev_getD, ev_gD, ev_keyI, ev_keyS, ev_dgK, ev_dinE, ev_diK, ev_dputE, ev_dpK, ev_dget2E, ev_isDA, ev_isSome, ev_isNone, ev_dg2K, ev_dpop2E, ev_dp2K, ev_dp3S, ev_dp3N, ev_sortedE, ev_srO1, ev_srO2, ev_gLd, ev_srKS, ev_srKI, ev_gDT, ev_gT, ev_tinE, ev_tiKK, ev_keysA, ev_keysN, ev_keysC, ev_dputTE, ev_dptK, ev_dispE, ev_mpN, ev_mpC, ev_pcK, ev_dsK, ev_dsK2, ev_lc2E, ev_imp, ev_simp, ev_split, ev_splF, ev_splG, ev_fmt, ev_fmtS, ev_fmtI, ev_addK, ev_js0, ev_js1, ev_joined, ev_star, ev_starK, ev_each2, ev_each2K, ev_unl, ev_unlK, ev_intS, ev_strYS, ev_strYI, ev_mjoin, ev_joinG, ev_joinK, ev_sbind, ev_miS, ev_siK, List.getElem?_cons_zero, List.getElem?_cons_succ, List.set_cons_zero, List.set_cons_succ, List.length_cons, List.length_nil, List.cons_append, List.nil_append, if_true, if_false, Bool.false_eq_true, Bool.true_eq_false, reduceIte, Bool.not_true, Bool.not_false, Bool.and_true, Bool.true_and, Bool.and_false, Bool.false_and, Bool.or_true, Bool.true_or, Bool.or_false, Bool.false_or, decide_eq_true_eq, Nat.reduceAdd, Nat.reduceLeDiff, Nat.zero_add, Int.reduceLT, Int.reduceLE, Int.reduceEq, Int.reduceNeg, Nat.reduceEqDiff, and_self, and_true, true_and, decide_true, decide_false, eq_self, ite_true, ite_false, Int.reduceSub, Int.reduceAdd, Int.cast_ofNat_Int, Int.natCast_add, Int.cast_ofNat_Int, Nat.reduceSub, Nat.add_assoc, String.reduceBEq, String.reduceEq, Bool.or_not_self, beq_self_eq_true, i0, i1]
  refine okR_use (r2 _) fun a s hh => ?_
  obtain ⟨rfl, k2, rfl⟩ := hh
  simp only [wp_okR, wp_okF, wp_fin, wp_next, wp_then, wp_bind, wp_nox, wp_tK, wp_bK, wp_fr, wp_fn, wp_nn, wp_nr, wp_nb, wp_nc, wp_ln, wp_lc, wp_lb, wp_lr, wp_jn, wp_jc, ev_bok, ev_bno, ev_bex, ev_tok, ev_tno, ev_tex, ev_nnx, ev_nrt, ev_nbk, ev_nct, ev_nex, ev_nno, ev_frt, ev_fnx, ev_fex, ev_xok, ev_lsome, ev_lnone, ev_seq, ev_if, ev_ret, ev_retN, ev_drop, ev_nop, ev_brk, ev_cont, ev_asgN, ev_asgT, ev_asgO, ev_mgTup, ev_mgN, ev_mgC, ev_mg0, ev_putL, ev_putO, ev_var, ev_vr, ev_c, ev_op, ev_un, ev_test, ev_tb, ev_notT, ev_andT, ev_orT, ev_ifE, ev_not, ev_nb, ev_and, ev_andK, ev_or, ev_orK, ev_chain, ev_chK, ev_nil, ev_cons, ev_tup, ev_lst, ev_new, ev_call, ev_cb, ev_size, ev_addI, ev_addS, ev_addT, ev_addL, ev_catO, ev_sub, ev_mul, ev_div, ev_mod, ev_p5, ev_p6, ev_p12, ev_p18, ev_p30, ev_neg, ev_ltI, ev_ltS, ev_leI, ev_leS, ev_gt, ev_ge, ev_eqI, ev_eqS, ev_neI, ev_neS, ev_neB, ev_eqB, ev_is, ev_isnot, ev_ixT, ev_ixS, ev_ixR, ev_ixL, ev_ixK, ev_getL, ev_getM, ev_gL, ev_gM, ev_at0, ev_at1, ev_at2, ev_at3, ev_at4, ev_lenS, ev_lenR, ev_lenT, ev_lenL, ev_lenO, ev_lenD, ev_abs, ev_min2, ev_max2, ev_intI, ev_intB, ev_set, ev_fc, ev_setset, ev_last, ev_appk, ev_app0, ev_setk, ev_set0, ev_assoc, ev_lapp, ev_lappA, ev_sl, ev_nopart, ev_part, ev_ptK, ev_slT, ev_slS, ev_slR, ev_slK, ev_tyN, ev_tyB, ev_tyI, ev_tyS, ev_tyT, ev_tyL, ev_tyR, ev_tyRL, ev_isi, ev_isi1, ev_isi2, ev_isi3, ev_isi4, ev_isi5, ev_isiT, ev_isi2K, ev_isTy, ev_list, ev_listK, ev_tuple, ev_tupK, ev_getST, ev_getSR, ev_getSL, ev_all, ev_allK, ev_eqXI, ev_eqXS, ev_neXI, ev_neXS, ev_neXB, ev_eqXB, ev_eqXR, ev_neXR, ev_nil2, ev_eqK, ev_neK, ev_meth, ev_meth0, ev_mth1, ev_mth2, ev_mth3, ev_append, ev_m0, ev_m0K, ev_str, ev_for, ev_miR1, ev_rg1K, ev_miL, ev_liK, ev_miT, ev_tiK, ev_lc, ev_wipe0, ev_wipeS, ev_yes, ev_lenSet, ev_lenSetK, ev_listR, ev_lrK, ev_put2, ev_p2A, ev_p2K, ev_p2E, ev_put1, ev_pt1, ev_addXI, ev_addXB, ev_addXS, ev_addXT, ev_addXL, ev_subXI, ev_subXB, ev_mulXI, ev_mulXB, ev_mulXL, ev_negXI, ev_negXB, ev_strXI, ev_strXB, ev_mulYI, ev_mulYB, ev_mulYL, ev_mulYT, ev_dnew, ev_dnewT, ev_dgetE, ev_getD, ev_gD, ev_keyI, ev_keyS, ev_dgK, ev_dinE, ev_diK, ev_dputE, ev_dpK, ev_dget2E, ev_isDA, ev_isSome, ev_isNone, ev_dg2K, ev_dpop2E, ev_dp2K, ev_dp3S, ev_dp3N, ev_sortedE, ev_srO1, ev_srO2, ev_gLd, ev_srKS, ev_srKI, ev_gDT, ev_gT, ev_tinE, ev_tiKK, ev_keysA, ev_keysN, ev_keysC, ev_dputTE, ev_dptK, ev_dispE, ev_mpN, ev_mpC, ev_pcK, ev_dsK, ev_dsK2, ev_lc2E, ev_imp, ev_simp, ev_split, ev_splF, ev_splG, ev_fmt, ev_fmtS, ev_fmtI, ev_addK, ev_js0, ev_js1, ev_joined, ev_star, ev_starK, ev_each2, ev_each2K, ev_unl, ev_unlK, ev_intS, ev_strYS, ev_strYI, ev_mjoin, ev_joinG, ev_joinK, ev_sbind, ev_miS, ev_siK, List.getElem?_cons_zero, List.getElem?_cons_succ, List.set_cons_zero, List.set_cons_succ, List.length_cons, List.length_nil, List.cons_append, List.nil_append, if_true, if_false, Bool.false_eq_true, Bool.true_eq_false, reduceIte, Bool.not_true, Bool.not_false, Bool.and_true, Bool.true_and, Bool.and_false, Bool.false_and, Bool.or_true, Bool.true_or, Bool.or_false, Bool.false_or, decide_eq_true_eq, Nat.reduceAdd, Nat.reduceLeDiff, Nat.zero_add, Int.reduceLT, Int.reduceLE, Int.reduceEq, Int.reduceNeg, Nat.reduceEqDiff, and_self, and_true, true_and, decide_true, decide_false, eq_self, ite_true, ite_false, Int.reduceSub, Int.reduceAdd, Int.cast_ofNat_Int, Int.natCast_add, Int.cast_ofNat_Int, Nat.reduceSub, Nat.add_assoc, String.reduceBEq, String.reduceEq, Bool.or_not_self, beq_self_eq_true, i0, i1]
  obtain ⟨S1, hS1⟩ : ∃ S1, S1 = S ++ (k1 ++ k2) := ⟨_, rfl⟩
  have z1 : S.length + (k1.length + k2.length) = S1.length := by rw [hS1, List.length_append, List.length_append]
  have es : S ++ (k1 ++ (k2 ++ [AO.lst []])) = S1 ++ [AO.lst []] := by
    rw [hS1, List.append_assoc, List.append_assoc]
  rw [es, z1]
  refine lc_W (fun _ => false) id (fun _ => trivial) (by rw [List.length_map, List.length_map]; omega) (fun x hx => ?_) (fun l' => ?_)
  · obtain ⟨r, hr, rfl⟩ := List.mem_map.mp hx
    obtain ⟨q, hq, rfl⟩ := List.mem_map.mp hr
    have hp := h.fp q hq
    have j1 : atI (fileR q) 1 = some (.int q.2) := rfl
    have w1 := fun S => lwithin_is (S := S) hp.1 hp.2
    refine ⟨_, rfl, fun k => ?_, fun z => by cases z⟩
    simp only [wp_okR, wp_okF, wp_fin, wp_next, wp_then, wp_bind, wp_nox, wp_tK, wp_bK, wp_fr, wp_fn, wp_nn, wp_nr, wp_nb, wp_nc, wp_ln, wp_lc, wp_lb, wp_lr, wp_jn, wp_jc, ev_bok, ev_bno, ev_bex, ev_tok, ev_tno, ev_tex, ev_nnx, ev_nrt, ev_nbk, ev_nct, ev_nex, ev_nno, ev_frt, ev_fnx, ev_fex, ev_xok, ev_lsome, ev_lnone, ev_seq, ev_if, ev_ret, ev_retN, ev_drop, ev_nop, ev_brk, ev_cont, ev_asgN, ev_asgT, ev_asgO, ev_mgTup, ev_mgN, ev_mgC, ev_mg0, ev_putL, ev_putO, ev_var, ev_vr, ev_c, ev_op, ev_un, ev_test, ev_tb, ev_notT, ev_andT, ev_orT, ev_ifE, ev_not, ev_nb, ev_and, ev_andK, ev_or, ev_orK, ev_chain, ev_chK, ev_nil, ev_cons, ev_tup, ev_lst, ev_new, ev_call, ev_cb, ev_size, ev_addI, ev_addS, ev_addT, ev_addL, ev_catO, ev_sub, ev_mul, ev_div, ev_mod, ev_p5, ev_p6, ev_p12, ev_p18, ev_p30, ev_neg, ev_ltI, ev_ltS, ev_leI, ev_leS, ev_gt, ev_ge, ev_eqI, ev_eqS, ev_neI, ev_neS, ev_neB, ev_eqB, ev_is, ev_isnot, ev_ixT, ev_ixS, ev_ixR, ev_ixL, ev_ixK, ev_getL, ev_getM, ev_gL, ev_gM, ev_at0, ev_at1, ev_at2, ev_at3, ev_at4, ev_lenS, ev_lenR, ev_lenT, ev_lenL, ev_lenO, ev_lenD, ev_abs, ev_min2, ev_max2, ev_intI, ev_intB, ev_set, ev_fc, ev_setset, ev_last, ev_appk, ev_app0, ev_setk, ev_set0, ev_assoc, ev_lapp, ev_lappA, ev_sl, ev_nopart, ev_part, ev_ptK, ev_slT, ev_slS, ev_slR, ev_slK, ev_tyN, ev_tyB, ev_tyI, ev_tyS, ev_tyT, ev_tyL, ev_tyR, ev_tyRL, ev_isi, ev_isi1, ev_isi2, ev_isi3, ev_isi4, ev_isi5, ev_isiT, ev_isi2K, ev_isTy, ev_list, ev_listK, ev_tuple, ev_tupK, ev_getST, ev_getSR, ev_getSL, ev_all, ev_allK, ev_eqXI, ev_eqXS, ev_neXI, ev_neXS, ev_neXB, ev_eqXB, ev_eqXR, ev_neXR, ev_nil2, ev_eqK, ev_neK, ev_meth, ev_meth0, ev_mth1, ev_mth2, ev_mth3, ev_append, ev_m0, ev_m0K, ev_str, ev_for, ev_miR1, ev_rg1K, ev_miL, ev_liK, ev_miT, ev_tiK, ev_lc, ev_wipe0, ev_wipeS, ev_yes, ev_lenSet, ev_lenSetK, ev_listR, ev_lrK, ev_put2, ev_p2A, ev_p2K, ev_p2E, ev_put1, ev_pt1, ev_addXI, ev_addXB, ev_addXS, ev_addXT, ev_addXL, ev_subXI, ev_subXB, ev_mulXI, ev_mulXB, ev_mulXL, ev_negXI, ev_negXB, ev_strXI, ev_strXB, ev_mulYI, ev_mulYB, ev_mulYL, ev_mulYT, ev_dnew, ev_dnewT, ev_dgetE, ev_getD, ev_gD, ev_keyI, ev_keyS, ev_dgK, ev_dinE, ev_diK, ev_dputE, ev_dpK, ev_dget2E, ev_isDA, ev_isSome, ev_isNone, ev_dg2K, ev_dpop2E, ev_dp2K, ev_dp3S, ev_dp3N, ev_sortedE, ev_srO1, ev_srO2, ev_gLd, ev_srKS, ev_srKI, ev_gDT, ev_gT, ev_tinE, ev_tiKK, ev_keysA, ev_keysN, ev_keysC, ev_dputTE, ev_dptK, ev_dispE, ev_mpN, ev_mpC, ev_pcK, ev_dsK, ev_dsK2, ev_lc2E, ev_imp, ev_simp, ev_split, ev_splF, ev_splG, ev_fmt, ev_fmtS, ev_fmtI, ev_addK, ev_js0, ev_js1, ev_joined, ev_star, ev_starK, ev_each2, ev_each2K, ev_unl, ev_unlK, ev_intS, ev_strYS, ev_strYI, ev_mjoin, ev_joinG, ev_joinK, ev_sbind, ev_miS, ev_siK, List.getElem?_cons_zero, List.getElem?_cons_succ, List.set_cons_zero, List.set_cons_succ, List.length_cons, List.length_nil, List.cons_append, List.nil_append, if_true, if_false, Bool.false_eq_true, Bool.true_eq_false, reduceIte, Bool.not_true, Bool.not_false, Bool.and_true, Bool.true_and, Bool.and_false, Bool.false_and, Bool.or_true, Bool.true_or, Bool.or_false, Bool.false_or, decide_eq_true_eq, Nat.reduceAdd, Nat.reduceLeDiff, Nat.zero_add, Int.reduceLT, Int.reduceLE, Int.reduceEq, Int.reduceNeg, Nat.reduceEqDiff, and_self, and_true, true_and, decide_true, decide_false, eq_self, ite_true, ite_false, Int.reduceSub, Int.reduceAdd, Int.cast_ofNat_Int, Int.natCast_add, Int.cast_ofNat_Int, Nat.reduceSub, Nat.add_assoc, String.reduceBEq, String.reduceEq, Bool.or_not_self, beq_self_eq_true, j1, w1]
    exact ⟨[], by simp⟩
  · have ef : List.filter (fun _ : A => false) ((fs.map fileR).map A.tup) = [] := by simp
    rw [ef]
    have e0 : ([] : List A).isEmpty = true := rfl
    simp only [wp_okR, wp_okF, wp_fin, wp_next, wp_then, wp_bind, wp_nox, wp_tK, wp_bK, wp_fr, wp_fn, wp_nn, wp_nr, wp_nb, wp_nc, wp_ln, wp_lc, wp_lb, wp_lr, wp_jn, wp_jc, ev_bok, ev_bno, ev_bex, ev_tok, ev_tno, ev_tex, ev_nnx, ev_nrt, ev_nbk, ev_nct, ev_nex, ev_nno, ev_frt, ev_fnx, ev_fex, ev_xok, ev_lsome, ev_lnone, ev_seq, ev_if, ev_ret, ev_retN, ev_drop, ev_nop, ev_brk, ev_cont, ev_asgN, ev_asgT, ev_asgO, ev_mgTup, ev_mgN, ev_mgC, ev_mg0, ev_putL, ev_putO, ev_var, ev_vr, ev_c, ev_op, ev_un, ev_test, ev_tb, ev_notT, ev_andT, ev_orT, ev_ifE, ev_not, ev_nb, ev_and, ev_andK, ev_or, ev_orK, ev_chain, ev_chK, ev_nil, ev_cons, ev_tup, ev_lst, ev_new, ev_call, ev_cb, ev_size, ev_addI, ev_addS, ev_addT, ev_addL, ev_catO, ev_sub, ev_mul, ev_div, ev_mod, ev_p5, ev_p6, ev_p12, ev_p18, ev_p30, ev_neg, ev_ltI, ev_ltS, ev_leI, ev_leS, ev_gt, ev_ge, ev_eqI, ev_eqS, ev_neI, ev_neS, ev_neB, ev_eqB, ev_is, ev_isnot, ev_ixT, ev_ixS, ev_ixR, ev_ixL, ev_ixK, ev_getL, ev_getM, ev_gL, ev_gM, ev_at0, ev_at1, ev_at2, ev_at3, ev_at4, ev_lenS, ev_lenR, ev_lenT, ev_lenL, ev_lenO, ev_lenD, ev_abs, ev_min2, ev_max2, ev_intI, ev_intB, ev_set, ev_fc, ev_setset, ev_last, ev_appk, ev_app0, ev_setk, ev_set0, ev_assoc, ev_lapp, ev_lappA, ev_sl, ev_nopart, ev_part, ev_ptK, ev_slT, ev_slS, ev_slR, ev_slK, ev_tyN, ev_tyB, ev_tyI, ev_tyS, ev_tyT, ev_tyL, ev_tyR, ev_tyRL, ev_isi, ev_isi1, ev_isi2, ev_isi3, ev_isi4, ev_isi5, ev_isiT, ev_isi2K, ev_isTy, ev_list, ev_listK, ev_tuple, ev_tupK, ev_getST, ev_getSR, ev_getSL, ev_all, ev_allK, ev_eqXI, ev_eqXS, ev_neXI, ev_neXS, ev_neXB, ev_eqXB, ev_eqXR, ev_neXR, ev_nil2, ev_eqK, ev_neK, ev_meth, ev_meth0, ev_mth1, ev_mth2, ev_mth3, ev_append, ev_m0, ev_m0K, ev_str, ev_for, ev_miR1, ev_rg1K, ev_miL, ev_liK, ev_miT, ev_tiK, ev_lc, ev_wipe0, ev_wipeS, ev_yes, ev_lenSet, ev_lenSetK, ev_listR, ev_lrK, ev_put2, ev_p2A, ev_p2K, ev_p2E, ev_put1, ev_pt1, ev_addXI, ev_addXB, ev_addXS, ev_addXT, ev_addXL, ev_subXI, ev_subXB, ev_mulXI, ev_mulXB, ev_mulXL, ev_negXI, ev_negXB, ev_strXI, ev_strXB, ev_mulYI, ev_mulYB, ev_mulYL, ev_mulYT, ev_dnew, ev_dnewT, ev_dgetE, ev_getD, ev_gD, ev_keyI, ev_keyS, ev_dgK, ev_dinE, ev_diK, ev_dputE, ev_dpK, ev_dget2E, ev_isDA, ev_isSome, ev_isNone, ev_dg2K, ev_dpop2E, ev_dp2K, ev_dp3S, ev_dp3N, ev_sortedE, ev_srO1, ev_srO2, ev_gLd, ev_srKS, ev_srKI, ev_gDT, ev_gT, ev_tinE, ev_tiKK, ev_keysA, ev_keysN, ev_keysC, ev_dputTE, ev_dptK, ev_dispE, ev_mpN, ev_mpC, ev_pcK, ev_dsK, ev_dsK2, ev_lc2E, ev_imp, ev_simp, ev_split, ev_splF, ev_splG, ev_fmt, ev_fmtS, ev_fmtI, ev_addK, ev_js0, ev_js1, ev_joined, ev_star, ev_starK, ev_each2, ev_each2K, ev_unl, ev_unlK, ev_intS, ev_strYS, ev_strYI, ev_mjoin, ev_joinG, ev_joinK, ev_sbind, ev_miS, ev_siK, List.getElem?_cons_zero, List.getElem?_cons_succ, List.set_cons_zero, List.set_cons_succ, List.length_cons, List.length_nil, List.cons_append, List.nil_append, if_true, if_false, Bool.false_eq_true, Bool.true_eq_false, reduceIte, Bool.not_true, Bool.not_false, Bool.and_true, Bool.true_and, Bool.and_false, Bool.false_and, Bool.or_true, Bool.true_or, Bool.or_false, Bool.false_or, decide_eq_true_eq, Nat.reduceAdd, Nat.reduceLeDiff, Nat.zero_add, Int.reduceLT, Int.reduceLE, Int.reduceEq, Int.reduceNeg, Nat.reduceEqDiff, and_self, and_true, true_and, decide_true, decide_false, eq_self, ite_true, ite_false, Int.reduceSub, Int.reduceAdd, Int.cast_ofNat_Int, Int.natCast_add, Int.cast_ofNat_Int, Nat.reduceSub, Nat.add_assoc, String.reduceBEq, String.reduceEq, Bool.or_not_self, beq_self_eq_true, List.map_nil, i1, e0]
    refine forL_wp (j := 0) (fun i env s => ∃ z1, env = [some (A.tup [.tup ((fs.map fileR).map A.tup), .tup ((cs.map cliR).map A.tup), .int l, .int d]), z1] ∧ ∃ l, s = S ++ l) (fun i env s hh => trivial) ⟨none, rfl, _, by rw [hS1, List.append_assoc]⟩ (fun i x env s hx hh => ?_) (fun env s hh => ?_)
    · obtain ⟨r, hr, rfl⟩ := List.mem_map.mp (List.mem_of_getElem? hx)
      obtain ⟨q, hq, rfl⟩ := List.mem_map.mp hr
      obtain ⟨z1, rfl, k, rfl⟩ := hh
      have hp := h.cr q hq
      have hs := decide_eq_false (h.cn.nm q.1 (List.mem_map.mpr ⟨q, hq, rfl⟩)).2
      have j0 : atI (cliR q) 0 = some (.str q.1) := rfl
      have j1 : atI (cliR q) 1 = some (.int q.2.1) := rfl
      have j2 : atI (cliR q) 2 = some (.int q.2.2) := rfl
      have w1 := fun S => lwithin_is (S := S) hp.1 hp.2.1
      have w2 := fun S => lwithin_is (S := S) hp.2.2.1 hp.2.2.2
      refine ⟨_, rfl, ?_⟩
      unfold lb__law_is_setup_1
      simp only [wp_okR, wp_okF, wp_fin, wp_next, wp_then, wp_bind, wp_nox, wp_tK, wp_bK, wp_fr, wp_fn, wp_nn, wp_nr, wp_nb, wp_nc, wp_ln, wp_lc, wp_lb, wp_lr, wp_jn, wp_jc, ev_bok, ev_bno, ev_bex, ev_tok, ev_tno, ev_tex, ev_nnx, ev_nrt, ev_nbk, ev_nct, ev_nex, ev_nno, ev_frt, ev_fnx, ev_fex, ev_xok, ev_lsome, ev_lnone, ev_seq, ev_if, ev_ret, ev_retN, ev_drop, ev_nop, ev_brk, ev_cont, ev_asgN, ev_asgT, ev_asgO, ev_mgTup, ev_mgN, ev_mgC, ev_mg0, ev_putL, ev_putO, ev_var, ev_vr, ev_c, ev_op, ev_un, ev_test, ev_tb, ev_notT, ev_andT, ev_orT, ev_ifE, ev_not, ev_nb, ev_and, ev_andK, ev_or, ev_orK, ev_chain, ev_chK, ev_nil, ev_cons, ev_tup, ev_lst, ev_new, ev_call, ev_cb, ev_size, ev_addI, ev_addS, ev_addT, ev_addL, ev_catO, ev_sub, ev_mul, ev_div, ev_mod, ev_p5, ev_p6, ev_p12, ev_p18, ev_p30, ev_neg, ev_ltI, ev_ltS, ev_leI, ev_leS, ev_gt, ev_ge, ev_eqI, ev_eqS, ev_neI, ev_neS, ev_neB, ev_eqB, ev_is, ev_isnot, ev_ixT, ev_ixS, ev_ixR, ev_ixL, ev_ixK, ev_getL, ev_getM, ev_gL, ev_gM, ev_at0, ev_at1, ev_at2, ev_at3, ev_at4, ev_lenS, ev_lenR, ev_lenT, ev_lenL, ev_lenO, ev_lenD, ev_abs, ev_min2, ev_max2, ev_intI, ev_intB, ev_set, ev_fc, ev_setset, ev_last, ev_appk, ev_app0, ev_setk, ev_set0, ev_assoc, ev_lapp, ev_lappA, ev_sl, ev_nopart, ev_part, ev_ptK, ev_slT, ev_slS, ev_slR, ev_slK, ev_tyN, ev_tyB, ev_tyI, ev_tyS, ev_tyT, ev_tyL, ev_tyR, ev_tyRL, ev_isi, ev_isi1, ev_isi2, ev_isi3, ev_isi4, ev_isi5, ev_isiT, ev_isi2K, ev_isTy, ev_list, ev_listK, ev_tuple, ev_tupK, ev_getST, ev_getSR, ev_getSL, ev_all, ev_allK, ev_eqXI, ev_eqXS, ev_neXI, ev_neXS, ev_neXB, ev_eqXB, ev_eqXR, ev_neXR, ev_nil2, ev_eqK, ev_neK, ev_meth, ev_meth0, ev_mth1, ev_mth2, ev_mth3, ev_append, ev_m0, ev_m0K, ev_str, ev_for, ev_miR1, ev_rg1K, ev_miL, ev_liK, ev_miT, ev_tiK, ev_lc, ev_wipe0, ev_wipeS, ev_yes, ev_lenSet, ev_lenSetK, ev_listR, ev_lrK, ev_put2, ev_p2A, ev_p2K, ev_p2E, ev_put1, ev_pt1, ev_addXI, ev_addXB, ev_addXS, ev_addXT, ev_addXL, ev_subXI, ev_subXB, ev_mulXI, ev_mulXB, ev_mulXL, ev_negXI, ev_negXB, ev_strXI, ev_strXB, ev_mulYI, ev_mulYB, ev_mulYL, ev_mulYT, ev_dnew, ev_dnewT, ev_dgetE, ev_getD, ev_gD, ev_keyI, ev_keyS, ev_dgK, ev_dinE, ev_diK, ev_dputE, ev_dpK, ev_dget2E, ev_isDA, ev_isSome, ev_isNone, ev_dg2K, ev_dpop2E, ev_dp2K, ev_dp3S, ev_dp3N, ev_sortedE, ev_srO1, ev_srO2, ev_gLd, ev_srKS, ev_srKI, ev_gDT, ev_gT, ev_tinE, ev_tiKK, ev_keysA, ev_keysN, ev_keysC, ev_dputTE, ev_dptK, ev_dispE, ev_mpN, ev_mpC, ev_pcK, ev_dsK, ev_dsK2, ev_lc2E, ev_imp, ev_simp, ev_split, ev_splF, ev_splG, ev_fmt, ev_fmtS, ev_fmtI, ev_addK, ev_js0, ev_js1, ev_joined, ev_star, ev_starK, ev_each2, ev_each2K, ev_unl, ev_unlK, ev_intS, ev_strYS, ev_strYI, ev_mjoin, ev_joinG, ev_joinK, ev_sbind, ev_miS, ev_siK, List.getElem?_cons_zero, List.getElem?_cons_succ, List.set_cons_zero, List.set_cons_succ, List.length_cons, List.length_nil, List.cons_append, List.nil_append, if_true, if_false, Bool.false_eq_true, Bool.true_eq_false, reduceIte, Bool.not_true, Bool.not_false, Bool.and_true, Bool.true_and, Bool.and_false, Bool.false_and, Bool.or_true, Bool.true_or, Bool.or_false, Bool.false_or, decide_eq_true_eq, Nat.reduceAdd, Nat.reduceLeDiff, Nat.zero_add, Int.reduceLT, Int.reduceLE, Int.reduceEq, Int.reduceNeg, Nat.reduceEqDiff, and_self, and_true, true_and, decide_true, decide_false, eq_self, ite_true, ite_false, Int.reduceSub, Int.reduceAdd, Int.cast_ofNat_Int, Int.natCast_add, Int.cast_ofNat_Int, Nat.reduceSub, Nat.add_assoc, String.reduceBEq, String.reduceEq, Bool.or_not_self, beq_self_eq_true, j0, j1, j2, w1, w2, hs]
      exact ⟨_, rfl, _, rfl⟩
    · obtain ⟨z1, rfl, k, rfl⟩ := hh
      have w1 := fun S => lwithin_is (S := S) h.l2 h.lm
      have w2 := fun S => lwithin_is (S := S) h.d0 h.dm
      simp only [wp_okR, wp_okF, wp_fin, wp_next, wp_then, wp_bind, wp_nox, wp_tK, wp_bK, wp_fr, wp_fn, wp_nn, wp_nr, wp_nb, wp_nc, wp_ln, wp_lc, wp_lb, wp_lr, wp_jn, wp_jc, ev_bok, ev_bno, ev_bex, ev_tok, ev_tno, ev_tex, ev_nnx, ev_nrt, ev_nbk, ev_nct, ev_nex, ev_nno, ev_frt, ev_fnx, ev_fex, ev_xok, ev_lsome, ev_lnone, ev_seq, ev_if, ev_ret, ev_retN, ev_drop, ev_nop, ev_brk, ev_cont, ev_asgN, ev_asgT, ev_asgO, ev_mgTup, ev_mgN, ev_mgC, ev_mg0, ev_putL, ev_putO, ev_var, ev_vr, ev_c, ev_op, ev_un, ev_test, ev_tb, ev_notT, ev_andT, ev_orT, ev_ifE, ev_not, ev_nb, ev_and, ev_andK, ev_or, ev_orK, ev_chain, ev_chK, ev_nil, ev_cons, ev_tup, ev_lst, ev_new, ev_call, ev_cb, ev_size, ev_addI, ev_addS, ev_addT, ev_addL, ev_catO, ev_sub, ev_mul, ev_div, ev_mod, ev_p5, ev_p6, ev_p12, ev_p18, ev_p30, ev_neg, ev_ltI, ev_ltS, ev_leI, ev_leS, ev_gt, ev_ge, ev_eqI, ev_eqS, ev_neI, ev_neS, ev_neB, ev_eqB, ev_is, ev_isnot, ev_ixT, ev_ixS, ev_ixR, ev_ixL, ev_ixK, ev_getL, ev_getM, ev_gL, ev_gM, ev_at0, ev_at1, ev_at2, ev_at3, ev_at4, ev_lenS, ev_lenR, ev_lenT, ev_lenL, ev_lenO, ev_lenD, ev_abs, ev_min2, ev_max2, ev_intI, ev_intB, ev_set, ev_fc, ev_setset, ev_last, ev_appk, ev_app0, ev_setk, ev_set0, ev_assoc, ev_lapp, ev_lappA, ev_sl, ev_nopart, ev_part, ev_ptK, ev_slT, ev_slS, ev_slR, ev_slK, ev_tyN, ev_tyB, ev_tyI, ev_tyS, ev_tyT, ev_tyL, ev_tyR, ev_tyRL, ev_isi, ev_isi1, ev_isi2, ev_isi3, ev_isi4, ev_isi5, ev_isiT, ev_isi2K, ev_isTy, ev_list, ev_listK, ev_tuple, ev_tupK, ev_getST, ev_getSR, ev_getSL, ev_all, ev_allK, ev_eqXI, ev_eqXS, ev_neXI, ev_neXS, ev_neXB, ev_eqXB, ev_eqXR, ev_neXR, ev_nil2, ev_eqK, ev_neK, ev_meth, ev_meth0, ev_mth1, ev_mth2, ev_mth3, ev_append, ev_m0, ev_m0K, ev_str, ev_for, ev_miR1, ev_rg1K, ev_miL, ev_liK, ev_miT, ev_tiK, ev_lc, ev_wipe0, ev_wipeS, ev_yes, ev_lenSet, ev_lenSetK, ev_listR, ev_lrK, ev_put2, ev_p2A, ev_p2K, ev_p2E, ev_put1, ev_pt1, ev_addXI, ev_addXB, ev_addXS, ev_addXT, ev_addXL, ev_subXI, ev_subXB, ev_mulXI, ev_mulXB, ev_mulXL, ev_negXI, ev_negXB, ev_strXI, ev_strXB, ev_mulYI, ev_mulYB, ev_mulYL, ev_mulYT, ev_dnew, ev_dnewT, ev_dgetE, ev_getD, ev_gD, ev_keyI, ev_keyS, ev_dgK, ev_dinE, ev_diK, ev_dputE, ev_dpK, ev_dget2E, ev_isDA, ev_isSome, ev_isNone, ev_dg2K, ev_dpop2E, ev_dp2K, ev_dp3S, ev_dp3N, ev_sortedE, ev_srO1, ev_srO2, ev_gLd, ev_srKS, ev_srKI, ev_gDT, ev_gT, ev_tinE, ev_tiKK, ev_keysA, ev_keysN, ev_keysC, ev_dputTE, ev_dptK, ev_dispE, ev_mpN, ev_mpC, ev_pcK, ev_dsK, ev_dsK2, ev_lc2E, ev_imp, ev_simp, ev_split, ev_splF, ev_splG, ev_fmt, ev_fmtS, ev_fmtI, ev_addK, ev_js0, ev_js1, ev_joined, ev_star, ev_starK, ev_each2, ev_each2K, ev_unl, ev_unlK, ev_intS, ev_strYS, ev_strYI, ev_mjoin, ev_joinG, ev_joinK, ev_sbind, ev_miS, ev_siK, List.getElem?_cons_zero, List.getElem?_cons_succ, List.set_cons_zero, List.set_cons_succ, List.length_cons, List.length_nil, List.cons_append, List.nil_append, if_true, if_false, Bool.false_eq_true, Bool.true_eq_false, reduceIte, Bool.not_true, Bool.not_false, Bool.and_true, Bool.true_and, Bool.and_false, Bool.false_and, Bool.or_true, Bool.true_or, Bool.or_false, Bool.false_or, decide_eq_true_eq, Nat.reduceAdd, Nat.reduceLeDiff, Nat.zero_add, Int.reduceLT, Int.reduceLE, Int.reduceEq, Int.reduceNeg, Nat.reduceEqDiff, and_self, and_true, true_and, decide_true, decide_false, eq_self, ite_true, ite_false, Int.reduceSub, Int.reduceAdd, Int.cast_ofNat_Int, Int.natCast_add, Int.cast_ofNat_Int, Nat.reduceSub, Nat.add_assoc, String.reduceBEq, String.reduceEq, Bool.or_not_self, beq_self_eq_true, i2, i3, w1, w2]
      exact ⟨_, rfl⟩

/-! ### setups as texts: the law -/
theorem bag_wp {st : Sto} {ns : List Int} {k : Int} (hk : 0 ≤ k) (hk2 : k < 100) : okR (m__law_bag [.lit (ns.map A.int), .int k] st) fun a t => a = .ref st.length ∧ ∃ o, t = st ++ [o] ∧ BagAt t st.length := by
  obtain ⟨o, e, B⟩ := bag_ev (st := st) (ns := ns) hk hk2
  exact okR_of ⟨_, _, e, rfl, o, rfl, B⟩
theorem set_inj {fs fs' : List (Str × Int)} {cs cs' : List (Str × Int × Int)} {l d l' d' : Int} (h : SetG fs cs l d) (h' : SetG fs' cs' l' d') : setT fs cs l d = setT fs' cs' l' d' ↔ setA fs cs l d = setA fs' cs' l' d' := by
  constructor
  · intro e
    obtain ⟨a, s, e1, e2, _⟩ := okR_out (setupOf_wp (S := []) h)
    obtain ⟨b, t, e3, e4, _⟩ := okR_out (setupOf_wp (S := []) h')
    rw [e, e3] at e1
    have q := (Res.ok.inj e1).1
    exact e2.symm.trans (q.symm.trans e4)
  · intro e
    obtain ⟨a, s, e1, e2, _⟩ := okR_out (setupText_wp (S := []) h)
    obtain ⟨b, t, e3, e4, _⟩ := okR_out (setupText_wp (S := []) h')
    rw [e, e3] at e1
    have q := (Res.ok.inj e1).1
    exact A.str.inj (e2.symm.trans (q.symm.trans e4))
def LastG (a : A) : Prop := a = .non ∨ ∃ fs cs l d, a = setA fs cs l d ∧ SetG fs cs l d
theorem pu_trip {fs : List (Str × Int)} {cs : List (Str × Int × Int)} {l d : Int} (h : SetG fs cs l d) : pu 4 (.tup [setA fs cs l d, .str (Str.ofString ""), .int 0]) := by
  refine .inr ⟨_, rfl, Nat.le_of_ble_eq_true rfl, fun x hx => ?_⟩
  simp only [List.mem_cons, List.not_mem_nil, or_false] at hx
  rcases hx with rfl | rfl | rfl
  · exact pu_set h
  · exact pu_word (by decide +kernel) (by decide +kernel)
  · exact pu_num (by decide) (by decide)
theorem trip_same {fs : List (Str × Int)} {cs : List (Str × Int × Int)} {l d : Int} {T : Sto} (h : SetG fs cs l d) : oNeX (.tup [setA fs cs l d, .str (Str.ofString ""), .int 0]) (.tup [setA fs cs l d, .str (Str.ofString ""), .int 0]) T = .ok (.bl false) T := by
  rw [(eq_pu (by decide) (pu_trip h) (pu_trip h)).2]
  simp
open Classical in
theorem set_same {fs fs' : List (Str × Int)} {cs cs' : List (Str × Int × Int)} {l d l' d' : Int} {T : Sto} (h : SetG fs cs l d) (h' : SetG fs' cs' l' d') : oEqX (setA fs cs l d) (setA fs' cs' l' d') T = .ok (.bl (decide (setT fs cs l d = setT fs' cs' l' d'))) T := by
  have p1 := pu_set h
  have p2 := pu_set h'
  have e := set_inj h h'
  have q := (eq_pu (st := T) (by decide) p1 p2).1
  by_cases z : setT fs cs l d = setT fs' cs' l' d'
  · exact q.trans (congrArg (fun b => Res.ok (A.bl b) T) ((decide_eq_true (A.tup.inj (e.mp z))).trans (decide_eq_true z).symm))
  · exact q.trans (congrArg (fun b => Res.ok (A.bl b) T) ((decide_eq_false fun y => z (e.mpr (congrArg A.tup y))).trans (decide_eq_false z).symm))
theorem cell_wp {ns : List Int} {k : Nat} {last : A} {z3 z4 z5 : Option A} {S : Sto} (hk : k < 100) (hl : LastG last) :
    okF (lb_law_1 [some (.lit (ns.map A.int)), some last, some (.int (0 + (k : Int))), z3, z4, z5] S) fun f t => ∃ last' z3 z4 z5, f = .nx [some (.lit (ns.map A.int)), some last', some (.int (0 + (k : Int))), z3, z4, z5] ∧ LastG last' := by
  unfold lb_law_1
  simp only [wp_okR, wp_okF, wp_fin, wp_next, wp_then, wp_bind, wp_nox, wp_tK, wp_bK, wp_fr, wp_fn, wp_nn, wp_nr, wp_nb, wp_nc, wp_ln, wp_lc, wp_lb, wp_lr, wp_jn, wp_jc, ev_bok, ev_bno, ev_bex, ev_tok, ev_tno, ev_tex, ev_nnx, ev_nrt, ev_nbk, ev_nct, ev_nex, ev_nno, ev_frt, ev_fnx, ev_fex, ev_xok, ev_lsome, ev_lnone, ev_seq, ev_if, ev_ret, ev_retN, ev_drop, ev_nop, ev_brk, ev_cont, ev_asgN, ev_asgT, ev_asgO, ev_mgTup, ev_mgN, ev_mgC, ev_mg0, ev_putL, ev_putO, ev_var, ev_vr, ev_c, ev_op, ev_un, ev_test, ev_tb, ev_notT, ev_andT, ev_orT, ev_ifE, ev_not, ev_nb, ev_and, ev_andK, ev_or, ev_orK, ev_chain, ev_chK, ev_nil, ev_cons, ev_tup, ev_lst, ev_new, ev_call, ev_cb, ev_size, ev_addI, ev_addS, ev_addT, ev_addL, ev_catO, ev_sub, ev_mul, ev_div, ev_mod, ev_p5, ev_p6, ev_p12, ev_p18, ev_p30, ev_neg, ev_ltI, ev_ltS, ev_leI, ev_leS, ev_gt, ev_ge, ev_eqI, ev_eqS, ev_neI, ev_neS, ev_neB, ev_eqB, ev_is, ev_isnot, ev_ixT, ev_ixS, ev_ixR, ev_ixL, ev_ixK, ev_getL, ev_getM, ev_gL, ev_gM, ev_at0, ev_at1, ev_at2, ev_at3, ev_at4, ev_lenS, ev_lenR, ev_lenT, ev_lenL, ev_lenO, ev_lenD, ev_abs, ev_min2, ev_max2, ev_intI, ev_intB, ev_set, ev_fc, ev_setset, ev_last, ev_appk, ev_app0, ev_setk, ev_set0, ev_assoc, ev_lapp, ev_lappA, ev_sl, ev_nopart, ev_part, ev_ptK, ev_slT, ev_slS, ev_slR, ev_slK, ev_tyN, ev_tyB, ev_tyI, ev_tyS, ev_tyT, ev_tyL, ev_tyR, ev_tyRL, ev_isi, ev_isi1, ev_isi2, ev_isi3, ev_isi4, ev_isi5, ev_isiT, ev_isi2K, ev_isTy, ev_list, ev_listK, ev_tuple, ev_tupK, ev_getST, ev_getSR, ev_getSL, ev_all, ev_allK, ev_eqXI, ev_eqXS, ev_neXI, ev_neXS, ev_neXB, ev_eqXB, ev_eqXR, ev_neXR, ev_nil2, ev_eqK, ev_neK, ev_meth, ev_meth0, ev_mth1, ev_mth2, ev_mth3, ev_append, ev_m0, ev_m0K, ev_str, ev_for, ev_miR1, ev_rg1K, ev_miL, ev_liK, ev_miT, ev_tiK, ev_lc, ev_wipe0, ev_wipeS, ev_yes, ev_lenSet, ev_lenSetK, ev_listR, ev_lrK, ev_put2, ev_p2A, ev_p2K, ev_p2E, ev_put1, ev_pt1, ev_addXI, ev_addXB, ev_addXS, ev_addXT, ev_addXL, ev_subXI, ev_subXB, ev_mulXI, ev_mulXB, ev_mulXL, ev_negXI, ev_negXB, ev_strXI, ev_strXB, ev_mulYI, ev_mulYB, ev_mulYL, ev_mulYT, ev_dnew, ev_dnewT, ev_dgetE, ev_getD, ev_gD, ev_keyI, ev_keyS, ev_dgK, ev_dinE, ev_diK, ev_dputE, ev_dpK, ev_dget2E, ev_isDA, ev_isSome, ev_isNone, ev_dg2K, ev_dpop2E, ev_dp2K, ev_dp3S, ev_dp3N, ev_sortedE, ev_srO1, ev_srO2, ev_gLd, ev_srKS, ev_srKI, ev_gDT, ev_gT, ev_tinE, ev_tiKK, ev_keysA, ev_keysN, ev_keysC, ev_dputTE, ev_dptK, ev_dispE, ev_mpN, ev_mpC, ev_pcK, ev_dsK, ev_dsK2, ev_lc2E, ev_imp, ev_simp, ev_split, ev_splF, ev_splG, ev_fmt, ev_fmtS, ev_fmtI, ev_addK, ev_js0, ev_js1, ev_joined, ev_star, ev_starK, ev_each2, ev_each2K, ev_unl, ev_unlK, ev_intS, ev_strYS, ev_strYI, ev_mjoin, ev_joinG, ev_joinK, ev_sbind, ev_miS, ev_siK, List.getElem?_cons_zero, List.getElem?_cons_succ, List.set_cons_zero, List.set_cons_succ, List.length_cons, List.length_nil, List.cons_append, List.nil_append, if_true, if_false, Bool.false_eq_true, Bool.true_eq_false, reduceIte, Bool.not_true, Bool.not_false, Bool.and_true, Bool.true_and, Bool.and_false, Bool.false_and, Bool.or_true, Bool.true_or, Bool.or_false, Bool.false_or, decide_eq_true_eq, Nat.reduceAdd, Nat.reduceLeDiff, Nat.zero_add, Int.reduceLT, Int.reduceLE, Int.reduceEq, Int.reduceNeg, Nat.reduceEqDiff, and_self, and_true, true_and, decide_true, decide_false, eq_self, ite_true, ite_false, Int.reduceSub, Int.reduceAdd, Int.cast_ofNat_Int, Int.natCast_add, Int.cast_ofNat_Int, Nat.reduceSub, Nat.add_assoc, String.reduceBEq, String.reduceEq, Bool.or_not_self, beq_self_eq_true]
  refine okR_use (bag_wp (by omega) (by omega)) fun a t h => ?_
  obtain ⟨rfl, o, rfl, hB⟩ := h
  simp only [wp_okR, wp_okF, wp_fin, wp_next, wp_then, wp_bind, wp_nox, wp_tK, wp_bK, wp_fr, wp_fn, wp_nn, wp_nr, wp_nb, wp_nc, wp_ln, wp_lc, wp_lb, wp_lr, wp_jn, wp_jc, ev_bok, ev_bno, ev_bex, ev_tok, ev_tno, ev_tex, ev_nnx, ev_nrt, ev_nbk, ev_nct, ev_nex, ev_nno, ev_frt, ev_fnx, ev_fex, ev_xok, ev_lsome, ev_lnone, ev_seq, ev_if, ev_ret, ev_retN, ev_drop, ev_nop, ev_brk, ev_cont, ev_asgN, ev_asgT, ev_asgO, ev_mgTup, ev_mgN, ev_mgC, ev_mg0, ev_putL, ev_putO, ev_var, ev_vr, ev_c, ev_op, ev_un, ev_test, ev_tb, ev_notT, ev_andT, ev_orT, ev_ifE, ev_not, ev_nb, ev_and, ev_andK, ev_or, ev_orK, ev_chain, ev_chK, ev_nil, ev_cons, ev_tup, ev_lst, ev_new, ev_call, ev_cb, ev_size, ev_addI, ev_addS, ev_addT, ev_addL, ev_catO, ev_sub, ev_mul, ev_div, ev_mod, ev_p5, ev_p6, ev_p12, ev_p18, ev_p30, ev_neg, ev_ltI, ev_ltS, ev_leI, ev_leS, ev_gt, ev_ge, ev_eqI, ev_eqS, ev_neI, ev_neS, ev_neB, ev_eqB, ev_is, ev_isnot, ev_ixT, ev_ixS, ev_ixR, ev_ixL, ev_ixK, ev_getL, ev_getM, ev_gL, ev_gM, ev_at0, ev_at1, ev_at2, ev_at3, ev_at4, ev_lenS, ev_lenR, ev_lenT, ev_lenL, ev_lenO, ev_lenD, ev_abs, ev_min2, ev_max2, ev_intI, ev_intB, ev_set, ev_fc, ev_setset, ev_last, ev_appk, ev_app0, ev_setk, ev_set0, ev_assoc, ev_lapp, ev_lappA, ev_sl, ev_nopart, ev_part, ev_ptK, ev_slT, ev_slS, ev_slR, ev_slK, ev_tyN, ev_tyB, ev_tyI, ev_tyS, ev_tyT, ev_tyL, ev_tyR, ev_tyRL, ev_isi, ev_isi1, ev_isi2, ev_isi3, ev_isi4, ev_isi5, ev_isiT, ev_isi2K, ev_isTy, ev_list, ev_listK, ev_tuple, ev_tupK, ev_getST, ev_getSR, ev_getSL, ev_all, ev_allK, ev_eqXI, ev_eqXS, ev_neXI, ev_neXS, ev_neXB, ev_eqXB, ev_eqXR, ev_neXR, ev_nil2, ev_eqK, ev_neK, ev_meth, ev_meth0, ev_mth1, ev_mth2, ev_mth3, ev_append, ev_m0, ev_m0K, ev_str, ev_for, ev_miR1, ev_rg1K, ev_miL, ev_liK, ev_miT, ev_tiK, ev_lc, ev_wipe0, ev_wipeS, ev_yes, ev_lenSet, ev_lenSetK, ev_listR, ev_lrK, ev_put2, ev_p2A, ev_p2K, ev_p2E, ev_put1, ev_pt1, ev_addXI, ev_addXB, ev_addXS, ev_addXT, ev_addXL, ev_subXI, ev_subXB, ev_mulXI, ev_mulXB, ev_mulXL, ev_negXI, ev_negXB, ev_strXI, ev_strXB, ev_mulYI, ev_mulYB, ev_mulYL, ev_mulYT, ev_dnew, ev_dnewT, ev_dgetE, ev_getD, ev_gD, ev_keyI, ev_keyS, ev_dgK, ev_dinE, ev_diK, ev_dputE, ev_dpK, ev_dget2E, ev_isDA, ev_isSome, ev_isNone, ev_dg2K, ev_dpop2E, ev_dp2K, ev_dp3S, ev_dp3N, ev_sortedE, ev_srO1, ev_srO2, ev_gLd, ev_srKS, ev_srKI, ev_gDT, ev_gT, ev_tinE, ev_tiKK, ev_keysA, ev_keysN, ev_keysC, ev_dputTE, ev_dptK, ev_dispE, ev_mpN, ev_mpC, ev_pcK, ev_dsK, ev_dsK2, ev_lc2E, ev_imp, ev_simp, ev_split, ev_splF, ev_splG, ev_fmt, ev_fmtS, ev_fmtI, ev_addK, ev_js0, ev_js1, ev_joined, ev_star, ev_starK, ev_each2, ev_each2K, ev_unl, ev_unlK, ev_intS, ev_strYS, ev_strYI, ev_mjoin, ev_joinG, ev_joinK, ev_sbind, ev_miS, ev_siK, List.getElem?_cons_zero, List.getElem?_cons_succ, List.set_cons_zero, List.set_cons_succ, List.length_cons, List.length_nil, List.cons_append, List.nil_append, if_true, if_false, Bool.false_eq_true, Bool.true_eq_false, reduceIte, Bool.not_true, Bool.not_false, Bool.and_true, Bool.true_and, Bool.and_false, Bool.false_and, Bool.or_true, Bool.true_or, Bool.or_false, Bool.false_or, decide_eq_true_eq, Nat.reduceAdd, Nat.reduceLeDiff, Nat.zero_add, Int.reduceLT, Int.reduceLE, Int.reduceEq, Int.reduceNeg, Nat.reduceEqDiff, and_self, and_true, true_and, decide_true, decide_false, eq_self, ite_true, ite_false, Int.reduceSub, Int.reduceAdd, Int.cast_ofNat_Int, Int.natCast_add, Int.cast_ofNat_Int, Nat.reduceSub, Nat.add_assoc, String.reduceBEq, String.reduceEq, Bool.or_not_self, beq_self_eq_true]
  refine okR_use (setup_wp hB) fun a s1 h => ?_
  obtain ⟨fs, cs, l, d, rfl, hG, _⟩ := h
  simp only [wp_okR, wp_okF, wp_fin, wp_next, wp_then, wp_bind, wp_nox, wp_tK, wp_bK, wp_fr, wp_fn, wp_nn, wp_nr, wp_nb, wp_nc, wp_ln, wp_lc, wp_lb, wp_lr, wp_jn, wp_jc, ev_bok, ev_bno, ev_bex, ev_tok, ev_tno, ev_tex, ev_nnx, ev_nrt, ev_nbk, ev_nct, ev_nex, ev_nno, ev_frt, ev_fnx, ev_fex, ev_xok, ev_lsome, ev_lnone, ev_seq, ev_if, ev_ret, ev_retN, ev_drop, ev_nop, ev_brk, ev_cont, ev_asgN, ev_asgT, ev_asgO, ev_mgTup, ev_mgN, ev_mgC, ev_mg0, ev_putL, ev_putO, ev_var, ev_vr, ev_c, ev_op, ev_un, ev_test, ev_tb, ev_notT, ev_andT, ev_orT, ev_ifE, ev_not, ev_nb, ev_and, ev_andK, ev_or, ev_orK, ev_chain, ev_chK, ev_nil, ev_cons, ev_tup, ev_lst, ev_new, ev_call, ev_cb, ev_size, ev_addI, ev_addS, ev_addT, ev_addL, ev_catO, ev_sub, ev_mul, ev_div, ev_mod, ev_p5, ev_p6, ev_p12, ev_p18, ev_p30, ev_neg, ev_ltI, ev_ltS, ev_leI, ev_leS, ev_gt, ev_ge, ev_eqI, ev_eqS, ev_neI, ev_neS, ev_neB, ev_eqB, ev_is, ev_isnot, ev_ixT, ev_ixS, ev_ixR, ev_ixL, ev_ixK, ev_getL, ev_getM, ev_gL, ev_gM, ev_at0, ev_at1, ev_at2, ev_at3, ev_at4, ev_lenS, ev_lenR, ev_lenT, ev_lenL, ev_lenO, ev_lenD, ev_abs, ev_min2, ev_max2, ev_intI, ev_intB, ev_set, ev_fc, ev_setset, ev_last, ev_appk, ev_app0, ev_setk, ev_set0, ev_assoc, ev_lapp, ev_lappA, ev_sl, ev_nopart, ev_part, ev_ptK, ev_slT, ev_slS, ev_slR, ev_slK, ev_tyN, ev_tyB, ev_tyI, ev_tyS, ev_tyT, ev_tyL, ev_tyR, ev_tyRL, ev_isi, ev_isi1, ev_isi2, ev_isi3, ev_isi4, ev_isi5, ev_isiT, ev_isi2K, ev_isTy, ev_list, ev_listK, ev_tuple, ev_tupK, ev_getST, ev_getSR, ev_getSL, ev_all, ev_allK, ev_eqXI, ev_eqXS, ev_neXI, ev_neXS, ev_neXB, ev_eqXB, ev_eqXR, ev_neXR, ev_nil2, ev_eqK, ev_neK, ev_meth, ev_meth0, ev_mth1, ev_mth2, ev_mth3, ev_append, ev_m0, ev_m0K, ev_str, ev_for, ev_miR1, ev_rg1K, ev_miL, ev_liK, ev_miT, ev_tiK, ev_lc, ev_wipe0, ev_wipeS, ev_yes, ev_lenSet, ev_lenSetK, ev_listR, ev_lrK, ev_put2, ev_p2A, ev_p2K, ev_p2E, ev_put1, ev_pt1, ev_addXI, ev_addXB, ev_addXS, ev_addXT, ev_addXL, ev_subXI, ev_subXB, ev_mulXI, ev_mulXB, ev_mulXL, ev_negXI, ev_negXB, ev_strXI, ev_strXB, ev_mulYI, ev_mulYB, ev_mulYL, ev_mulYT, ev_dnew, ev_dnewT, ev_dgetE, ev_getD, ev_gD, ev_keyI, ev_keyS, ev_dgK, ev_dinE, ev_diK, ev_dputE, ev_dpK, ev_dget2E, ev_isDA, ev_isSome, ev_isNone, ev_dg2K, ev_dpop2E, ev_dp2K, ev_dp3S, ev_dp3N, ev_sortedE, ev_srO1, ev_srO2, ev_gLd, ev_srKS, ev_srKI, ev_gDT, ev_gT, ev_tinE, ev_tiKK, ev_keysA, ev_keysN, ev_keysC, ev_dputTE, ev_dptK, ev_dispE, ev_mpN, ev_mpC, ev_pcK, ev_dsK, ev_dsK2, ev_lc2E, ev_imp, ev_simp, ev_split, ev_splF, ev_splG, ev_fmt, ev_fmtS, ev_fmtI, ev_addK, ev_js0, ev_js1, ev_joined, ev_star, ev_starK, ev_each2, ev_each2K, ev_unl, ev_unlK, ev_intS, ev_strYS, ev_strYI, ev_mjoin, ev_joinG, ev_joinK, ev_sbind, ev_miS, ev_siK, List.getElem?_cons_zero, List.getElem?_cons_succ, List.set_cons_zero, List.set_cons_succ, List.length_cons, List.length_nil, List.cons_append, List.nil_append, if_true, if_false, Bool.false_eq_true, Bool.true_eq_false, reduceIte, Bool.not_true, Bool.not_false, Bool.and_true, Bool.true_and, Bool.and_false, Bool.false_and, Bool.or_true, Bool.true_or, Bool.or_false, Bool.false_or, decide_eq_true_eq, Nat.reduceAdd, Nat.reduceLeDiff, Nat.zero_add, Int.reduceLT, Int.reduceLE, Int.reduceEq, Int.reduceNeg, Nat.reduceEqDiff, and_self, and_true, true_and, decide_true, decide_false, eq_self, ite_true, ite_false, Int.reduceSub, Int.reduceAdd, Int.cast_ofNat_Int, Int.natCast_add, Int.cast_ofNat_Int, Nat.reduceSub, Nat.add_assoc, String.reduceBEq, String.reduceEq, Bool.or_not_self, beq_self_eq_true]
  refine okR_use (setupText_wp hG) fun a s2 h => ?_
  obtain ⟨rfl, k2, rfl⟩ := h
  simp only [wp_okR, wp_okF, wp_fin, wp_next, wp_then, wp_bind, wp_nox, wp_tK, wp_bK, wp_fr, wp_fn, wp_nn, wp_nr, wp_nb, wp_nc, wp_ln, wp_lc, wp_lb, wp_lr, wp_jn, wp_jc, ev_bok, ev_bno, ev_bex, ev_tok, ev_tno, ev_tex, ev_nnx, ev_nrt, ev_nbk, ev_nct, ev_nex, ev_nno, ev_frt, ev_fnx, ev_fex, ev_xok, ev_lsome, ev_lnone, ev_seq, ev_if, ev_ret, ev_retN, ev_drop, ev_nop, ev_brk, ev_cont, ev_asgN, ev_asgT, ev_asgO, ev_mgTup, ev_mgN, ev_mgC, ev_mg0, ev_putL, ev_putO, ev_var, ev_vr, ev_c, ev_op, ev_un, ev_test, ev_tb, ev_notT, ev_andT, ev_orT, ev_ifE, ev_not, ev_nb, ev_and, ev_andK, ev_or, ev_orK, ev_chain, ev_chK, ev_nil, ev_cons, ev_tup, ev_lst, ev_new, ev_call, ev_cb, ev_size, ev_addI, ev_addS, ev_addT, ev_addL, ev_catO, ev_sub, ev_mul, ev_div, ev_mod, ev_p5, ev_p6, ev_p12, ev_p18, ev_p30, ev_neg, ev_ltI, ev_ltS, ev_leI, ev_leS, ev_gt, ev_ge, ev_eqI, ev_eqS, ev_neI, ev_neS, ev_neB, ev_eqB, ev_is, ev_isnot, ev_ixT, ev_ixS, ev_ixR, ev_ixL, ev_ixK, ev_getL, ev_getM, ev_gL, ev_gM, ev_at0, ev_at1, ev_at2, ev_at3, ev_at4, ev_lenS, ev_lenR, ev_lenT, ev_lenL, ev_lenO, ev_lenD, ev_abs, ev_min2, ev_max2, ev_intI, ev_intB, ev_set, ev_fc, ev_setset, ev_last, ev_appk, ev_app0, ev_setk, ev_set0, ev_assoc, ev_lapp, ev_lappA, ev_sl, ev_nopart, ev_part, ev_ptK, ev_slT, ev_slS, ev_slR, ev_slK, ev_tyN, ev_tyB, ev_tyI, ev_tyS, ev_tyT, ev_tyL, ev_tyR, ev_tyRL, ev_isi, ev_isi1, ev_isi2, ev_isi3, ev_isi4, ev_isi5, ev_isiT, ev_isi2K, ev_isTy, ev_list, ev_listK, ev_tuple, ev_tupK, ev_getST, ev_getSR, ev_getSL, ev_all, ev_allK, ev_eqXI, ev_eqXS, ev_neXI, ev_neXS, ev_neXB, ev_eqXB, ev_eqXR, ev_neXR, ev_nil2, ev_eqK, ev_neK, ev_meth, ev_meth0, ev_mth1, ev_mth2, ev_mth3, ev_append, ev_m0, ev_m0K, ev_str, ev_for, ev_miR1, ev_rg1K, ev_miL, ev_liK, ev_miT, ev_tiK, ev_lc, ev_wipe0, ev_wipeS, ev_yes, ev_lenSet, ev_lenSetK, ev_listR, ev_lrK, ev_put2, ev_p2A, ev_p2K, ev_p2E, ev_put1, ev_pt1, ev_addXI, ev_addXB, ev_addXS, ev_addXT, ev_addXL, ev_subXI, ev_subXB, ev_mulXI, ev_mulXB, ev_mulXL, ev_negXI, ev_negXB, ev_strXI, ev_strXB, ev_mulYI, ev_mulYB, ev_mulYL, ev_mulYT, ev_dnew, ev_dnewT, ev_dgetE, ev_getD, ev_gD, ev_keyI, ev_keyS, ev_dgK, ev_dinE, ev_diK, ev_dputE, ev_dpK, ev_dget2E, ev_isDA, ev_isSome, ev_isNone, ev_dg2K, ev_dpop2E, ev_dp2K, ev_dp3S, ev_dp3N, ev_sortedE, ev_srO1, ev_srO2, ev_gLd, ev_srKS, ev_srKI, ev_gDT, ev_gT, ev_tinE, ev_tiKK, ev_keysA, ev_keysN, ev_keysC, ev_dputTE, ev_dptK, ev_dispE, ev_mpN, ev_mpC, ev_pcK, ev_dsK, ev_dsK2, ev_lc2E, ev_imp, ev_simp, ev_split, ev_splF, ev_splG, ev_fmt, ev_fmtS, ev_fmtI, ev_addK, ev_js0, ev_js1, ev_joined, ev_star, ev_starK, ev_each2, ev_each2K, ev_unl, ev_unlK, ev_intS, ev_strYS, ev_strYI, ev_mjoin, ev_joinG, ev_joinK, ev_sbind, ev_miS, ev_siK, List.getElem?_cons_zero, List.getElem?_cons_succ, List.set_cons_zero, List.set_cons_succ, List.length_cons, List.length_nil, List.cons_append, List.nil_append, if_true, if_false, Bool.false_eq_true, Bool.true_eq_false, reduceIte, Bool.not_true, Bool.not_false, Bool.and_true, Bool.true_and, Bool.and_false, Bool.false_and, Bool.or_true, Bool.true_or, Bool.or_false, Bool.false_or, decide_eq_true_eq, Nat.reduceAdd, Nat.reduceLeDiff, Nat.zero_add, Int.reduceLT, Int.reduceLE, Int.reduceEq, Int.reduceNeg, Nat.reduceEqDiff, and_self, and_true, true_and, decide_true, decide_false, eq_self, ite_true, ite_false, Int.reduceSub, Int.reduceAdd, Int.cast_ofNat_Int, Int.natCast_add, Int.cast_ofNat_Int, Nat.reduceSub, Nat.add_assoc, String.reduceBEq, String.reduceEq, Bool.or_not_self, beq_self_eq_true]
  refine okR_use (setupLine_wp hG) fun a s3 h => ?_
  obtain ⟨rfl, k3, rfl⟩ := h
  simp only [wp_okR, wp_okF, wp_fin, wp_next, wp_then, wp_bind, wp_nox, wp_tK, wp_bK, wp_fr, wp_fn, wp_nn, wp_nr, wp_nb, wp_nc, wp_ln, wp_lc, wp_lb, wp_lr, wp_jn, wp_jc, ev_bok, ev_bno, ev_bex, ev_tok, ev_tno, ev_tex, ev_nnx, ev_nrt, ev_nbk, ev_nct, ev_nex, ev_nno, ev_frt, ev_fnx, ev_fex, ev_xok, ev_lsome, ev_lnone, ev_seq, ev_if, ev_ret, ev_retN, ev_drop, ev_nop, ev_brk, ev_cont, ev_asgN, ev_asgT, ev_asgO, ev_mgTup, ev_mgN, ev_mgC, ev_mg0, ev_putL, ev_putO, ev_var, ev_vr, ev_c, ev_op, ev_un, ev_test, ev_tb, ev_notT, ev_andT, ev_orT, ev_ifE, ev_not, ev_nb, ev_and, ev_andK, ev_or, ev_orK, ev_chain, ev_chK, ev_nil, ev_cons, ev_tup, ev_lst, ev_new, ev_call, ev_cb, ev_size, ev_addI, ev_addS, ev_addT, ev_addL, ev_catO, ev_sub, ev_mul, ev_div, ev_mod, ev_p5, ev_p6, ev_p12, ev_p18, ev_p30, ev_neg, ev_ltI, ev_ltS, ev_leI, ev_leS, ev_gt, ev_ge, ev_eqI, ev_eqS, ev_neI, ev_neS, ev_neB, ev_eqB, ev_is, ev_isnot, ev_ixT, ev_ixS, ev_ixR, ev_ixL, ev_ixK, ev_getL, ev_getM, ev_gL, ev_gM, ev_at0, ev_at1, ev_at2, ev_at3, ev_at4, ev_lenS, ev_lenR, ev_lenT, ev_lenL, ev_lenO, ev_lenD, ev_abs, ev_min2, ev_max2, ev_intI, ev_intB, ev_set, ev_fc, ev_setset, ev_last, ev_appk, ev_app0, ev_setk, ev_set0, ev_assoc, ev_lapp, ev_lappA, ev_sl, ev_nopart, ev_part, ev_ptK, ev_slT, ev_slS, ev_slR, ev_slK, ev_tyN, ev_tyB, ev_tyI, ev_tyS, ev_tyT, ev_tyL, ev_tyR, ev_tyRL, ev_isi, ev_isi1, ev_isi2, ev_isi3, ev_isi4, ev_isi5, ev_isiT, ev_isi2K, ev_isTy, ev_list, ev_listK, ev_tuple, ev_tupK, ev_getST, ev_getSR, ev_getSL, ev_all, ev_allK, ev_eqXI, ev_eqXS, ev_neXI, ev_neXS, ev_neXB, ev_eqXB, ev_eqXR, ev_neXR, ev_nil2, ev_eqK, ev_neK, ev_meth, ev_meth0, ev_mth1, ev_mth2, ev_mth3, ev_append, ev_m0, ev_m0K, ev_str, ev_for, ev_miR1, ev_rg1K, ev_miL, ev_liK, ev_miT, ev_tiK, ev_lc, ev_wipe0, ev_wipeS, ev_yes, ev_lenSet, ev_lenSetK, ev_listR, ev_lrK, ev_put2, ev_p2A, ev_p2K, ev_p2E, ev_put1, ev_pt1, ev_addXI, ev_addXB, ev_addXS, ev_addXT, ev_addXL, ev_subXI, ev_subXB, ev_mulXI, ev_mulXB, ev_mulXL, ev_negXI, ev_negXB, ev_strXI, ev_strXB, ev_mulYI, ev_mulYB, ev_mulYL, ev_mulYT, ev_dnew, ev_dnewT, ev_dgetE, ev_getD, ev_gD, ev_keyI, ev_keyS, ev_dgK, ev_dinE, ev_diK, ev_dputE, ev_dpK, ev_dget2E, ev_isDA, ev_isSome, ev_isNone, ev_dg2K, ev_dpop2E, ev_dp2K, ev_dp3S, ev_dp3N, ev_sortedE, ev_srO1, ev_srO2, ev_gLd, ev_srKS, ev_srKI, ev_gDT, ev_gT, ev_tinE, ev_tiKK, ev_keysA, ev_keysN, ev_keysC, ev_dputTE, ev_dptK, ev_dispE, ev_mpN, ev_mpC, ev_pcK, ev_dsK, ev_dsK2, ev_lc2E, ev_imp, ev_simp, ev_split, ev_splF, ev_splG, ev_fmt, ev_fmtS, ev_fmtI, ev_addK, ev_js0, ev_js1, ev_joined, ev_star, ev_starK, ev_each2, ev_each2K, ev_unl, ev_unlK, ev_intS, ev_strYS, ev_strYI, ev_mjoin, ev_joinG, ev_joinK, ev_sbind, ev_miS, ev_siK, List.getElem?_cons_zero, List.getElem?_cons_succ, List.set_cons_zero, List.set_cons_succ, List.length_cons, List.length_nil, List.cons_append, List.nil_append, if_true, if_false, Bool.false_eq_true, Bool.true_eq_false, reduceIte, Bool.not_true, Bool.not_false, Bool.and_true, Bool.true_and, Bool.and_false, Bool.false_and, Bool.or_true, Bool.true_or, Bool.or_false, Bool.false_or, decide_eq_true_eq, Nat.reduceAdd, Nat.reduceLeDiff, Nat.zero_add, Int.reduceLT, Int.reduceLE, Int.reduceEq, Int.reduceNeg, Nat.reduceEqDiff, and_self, and_true, true_and, decide_true, decide_false, eq_self, ite_true, ite_false, Int.reduceSub, Int.reduceAdd, Int.cast_ofNat_Int, Int.natCast_add, Int.cast_ofNat_Int, Nat.reduceSub, Nat.add_assoc, String.reduceBEq, String.reduceEq, Bool.or_not_self, beq_self_eq_true]
  refine okR_use (noText_wp hG) fun a s4 h => ?_
  obtain ⟨rfl, k4, rfl⟩ := h
  simp only [wp_okR, wp_okF, wp_fin, wp_next, wp_then, wp_bind, wp_nox, wp_tK, wp_bK, wp_fr, wp_fn, wp_nn, wp_nr, wp_nb, wp_nc, wp_ln, wp_lc, wp_lb, wp_lr, wp_jn, wp_jc, ev_bok, ev_bno, ev_bex, ev_tok, ev_tno, ev_tex, ev_nnx, ev_nrt, ev_nbk, ev_nct, ev_nex, ev_nno, ev_frt, ev_fnx, ev_fex, ev_xok, ev_lsome, ev_lnone, ev_seq, ev_if, ev_ret, ev_retN, ev_drop, ev_nop, ev_brk, ev_cont, ev_asgN, ev_asgT, ev_asgO, ev_mgTup, ev_mgN, ev_mgC, ev_mg0, ev_putL, ev_putO, ev_var, ev_vr, ev_c, ev_op, ev_un, ev_test, ev_tb, ev_notT, ev_andT, ev_orT, ev_ifE, ev_not, ev_nb, ev_and, ev_andK, ev_or, ev_orK, ev_chain, ev_chK, ev_nil, ev_cons, ev_tup, ev_lst, ev_new, ev_call, ev_cb, ev_size, ev_addI, ev_addS, ev_addT, ev_addL, ev_catO, ev_sub, ev_mul, ev_div, ev_mod, ev_p5, ev_p6, ev_p12, ev_p18, ev_p30, ev_neg, ev_ltI, ev_ltS, ev_leI, ev_leS, ev_gt, ev_ge, ev_eqI, ev_eqS, ev_neI, ev_neS, ev_neB, ev_eqB, ev_is, ev_isnot, ev_ixT, ev_ixS, ev_ixR, ev_ixL, ev_ixK, ev_getL, ev_getM, ev_gL, ev_gM, ev_at0, ev_at1, ev_at2, ev_at3, ev_at4, ev_lenS, ev_lenR, ev_lenT, ev_lenL, ev_lenO, ev_lenD, ev_abs, ev_min2, ev_max2, ev_intI, ev_intB, ev_set, ev_fc, ev_setset, ev_last, ev_appk, ev_app0, ev_setk, ev_set0, ev_assoc, ev_lapp, ev_lappA, ev_sl, ev_nopart, ev_part, ev_ptK, ev_slT, ev_slS, ev_slR, ev_slK, ev_tyN, ev_tyB, ev_tyI, ev_tyS, ev_tyT, ev_tyL, ev_tyR, ev_tyRL, ev_isi, ev_isi1, ev_isi2, ev_isi3, ev_isi4, ev_isi5, ev_isiT, ev_isi2K, ev_isTy, ev_list, ev_listK, ev_tuple, ev_tupK, ev_getST, ev_getSR, ev_getSL, ev_all, ev_allK, ev_eqXI, ev_eqXS, ev_neXI, ev_neXS, ev_neXB, ev_eqXB, ev_eqXR, ev_neXR, ev_nil2, ev_eqK, ev_neK, ev_meth, ev_meth0, ev_mth1, ev_mth2, ev_mth3, ev_append, ev_m0, ev_m0K, ev_str, ev_for, ev_miR1, ev_rg1K, ev_miL, ev_liK, ev_miT, ev_tiK, ev_lc, ev_wipe0, ev_wipeS, ev_yes, ev_lenSet, ev_lenSetK, ev_listR, ev_lrK, ev_put2, ev_p2A, ev_p2K, ev_p2E, ev_put1, ev_pt1, ev_addXI, ev_addXB, ev_addXS, ev_addXT, ev_addXL, ev_subXI, ev_subXB, ev_mulXI, ev_mulXB, ev_mulXL, ev_negXI, ev_negXB, ev_strXI, ev_strXB, ev_mulYI, ev_mulYB, ev_mulYL, ev_mulYT, ev_dnew, ev_dnewT, ev_dgetE, ev_getD, ev_gD, ev_keyI, ev_keyS, ev_dgK, ev_dinE, ev_diK, ev_dputE, ev_dpK, ev_dget2E, ev_isDA, ev_isSome, ev_isNone, ev_dg2K, ev_dpop2E, ev_dp2K, ev_dp3S, ev_dp3N, ev_sortedE, ev_srO1, ev_srO2, ev_gLd, ev_srKS, ev_srKI, ev_gDT, ev_gT, ev_tinE, ev_tiKK, ev_keysA, ev_keysN, ev_keysC, ev_dputTE, ev_dptK, ev_dispE, ev_mpN, ev_mpC, ev_pcK, ev_dsK, ev_dsK2, ev_lc2E, ev_imp, ev_simp, ev_split, ev_splF, ev_splG, ev_fmt, ev_fmtS, ev_fmtI, ev_addK, ev_js0, ev_js1, ev_joined, ev_star, ev_starK, ev_each2, ev_each2K, ev_unl, ev_unlK, ev_intS, ev_strYS, ev_strYI, ev_mjoin, ev_joinG, ev_joinK, ev_sbind, ev_miS, ev_siK, List.getElem?_cons_zero, List.getElem?_cons_succ, List.set_cons_zero, List.set_cons_succ, List.length_cons, List.length_nil, List.cons_append, List.nil_append, if_true, if_false, Bool.false_eq_true, Bool.true_eq_false, reduceIte, Bool.not_true, Bool.not_false, Bool.and_true, Bool.true_and, Bool.and_false, Bool.false_and, Bool.or_true, Bool.true_or, Bool.or_false, Bool.false_or, decide_eq_true_eq, Nat.reduceAdd, Nat.reduceLeDiff, Nat.zero_add, Int.reduceLT, Int.reduceLE, Int.reduceEq, Int.reduceNeg, Nat.reduceEqDiff, and_self, and_true, true_and, decide_true, decide_false, eq_self, ite_true, ite_false, Int.reduceSub, Int.reduceAdd, Int.cast_ofNat_Int, Int.natCast_add, Int.cast_ofNat_Int, Nat.reduceSub, Nat.add_assoc, String.reduceBEq, String.reduceEq, Bool.or_not_self, beq_self_eq_true, trip_same hG]
  refine okR_use (readSetup_wp hG) fun a s5 h => ?_
  obtain ⟨rfl, k5, rfl⟩ := h
  simp only [wp_okR, wp_okF, wp_fin, wp_next, wp_then, wp_bind, wp_nox, wp_tK, wp_bK, wp_fr, wp_fn, wp_nn, wp_nr, wp_nb, wp_nc, wp_ln, wp_lc, wp_lb, wp_lr, wp_jn, wp_jc, ev_bok, ev_bno, ev_bex, ev_tok, ev_tno, ev_tex, ev_nnx, ev_nrt, ev_nbk, ev_nct, ev_nex, ev_nno, ev_frt, ev_fnx, ev_fex, ev_xok, ev_lsome, ev_lnone, ev_seq, ev_if, ev_ret, ev_retN, ev_drop, ev_nop, ev_brk, ev_cont, ev_asgN, ev_asgT, ev_asgO, ev_mgTup, ev_mgN, ev_mgC, ev_mg0, ev_putL, ev_putO, ev_var, ev_vr, ev_c, ev_op, ev_un, ev_test, ev_tb, ev_notT, ev_andT, ev_orT, ev_ifE, ev_not, ev_nb, ev_and, ev_andK, ev_or, ev_orK, ev_chain, ev_chK, ev_nil, ev_cons, ev_tup, ev_lst, ev_new, ev_call, ev_cb, ev_size, ev_addI, ev_addS, ev_addT, ev_addL, ev_catO, ev_sub, ev_mul, ev_div, ev_mod, ev_p5, ev_p6, ev_p12, ev_p18, ev_p30, ev_neg, ev_ltI, ev_ltS, ev_leI, ev_leS, ev_gt, ev_ge, ev_eqI, ev_eqS, ev_neI, ev_neS, ev_neB, ev_eqB, ev_is, ev_isnot, ev_ixT, ev_ixS, ev_ixR, ev_ixL, ev_ixK, ev_getL, ev_getM, ev_gL, ev_gM, ev_at0, ev_at1, ev_at2, ev_at3, ev_at4, ev_lenS, ev_lenR, ev_lenT, ev_lenL, ev_lenO, ev_lenD, ev_abs, ev_min2, ev_max2, ev_intI, ev_intB, ev_set, ev_fc, ev_setset, ev_last, ev_appk, ev_app0, ev_setk, ev_set0, ev_assoc, ev_lapp, ev_lappA, ev_sl, ev_nopart, ev_part, ev_ptK, ev_slT, ev_slS, ev_slR, ev_slK, ev_tyN, ev_tyB, ev_tyI, ev_tyS, ev_tyT, ev_tyL, ev_tyR, ev_tyRL, ev_isi, ev_isi1, ev_isi2, ev_isi3, ev_isi4, ev_isi5, ev_isiT, ev_isi2K, ev_isTy, ev_list, ev_listK, ev_tuple, ev_tupK, ev_getST, ev_getSR, ev_getSL, ev_all, ev_allK, ev_eqXI, ev_eqXS, ev_neXI, ev_neXS, ev_neXB, ev_eqXB, ev_eqXR, ev_neXR, ev_nil2, ev_eqK, ev_neK, ev_meth, ev_meth0, ev_mth1, ev_mth2, ev_mth3, ev_append, ev_m0, ev_m0K, ev_str, ev_for, ev_miR1, ev_rg1K, ev_miL, ev_liK, ev_miT, ev_tiK, ev_lc, ev_wipe0, ev_wipeS, ev_yes, ev_lenSet, ev_lenSetK, ev_listR, ev_lrK, ev_put2, ev_p2A, ev_p2K, ev_p2E, ev_put1, ev_pt1, ev_addXI, ev_addXB, ev_addXS, ev_addXT, ev_addXL, ev_subXI, ev_subXB, ev_mulXI, ev_mulXB, ev_mulXL, ev_negXI, ev_negXB, ev_strXI, ev_strXB, ev_mulYI, ev_mulYB, ev_mulYL, ev_mulYT, ev_dnew, ev_dnewT, ev_dgetE, ev_getD, ev_gD, ev_keyI, ev_keyS, ev_dgK, ev_dinE, ev_diK, ev_dputE, ev_dpK, ev_dget2E, ev_isDA, ev_isSome, ev_isNone, ev_dg2K, ev_dpop2E, ev_dp2K, ev_dp3S, ev_dp3N, ev_sortedE, ev_srO1, ev_srO2, ev_gLd, ev_srKS, ev_srKI, ev_gDT, ev_gT, ev_tinE, ev_tiKK, ev_keysA, ev_keysN, ev_keysC, ev_dputTE, ev_dptK, ev_dispE, ev_mpN, ev_mpC, ev_pcK, ev_dsK, ev_dsK2, ev_lc2E, ev_imp, ev_simp, ev_split, ev_splF, ev_splG, ev_fmt, ev_fmtS, ev_fmtI, ev_addK, ev_js0, ev_js1, ev_joined, ev_star, ev_starK, ev_each2, ev_each2K, ev_unl, ev_unlK, ev_intS, ev_strYS, ev_strYI, ev_mjoin, ev_joinG, ev_joinK, ev_sbind, ev_miS, ev_siK, List.getElem?_cons_zero, List.getElem?_cons_succ, List.set_cons_zero, List.set_cons_succ, List.length_cons, List.length_nil, List.cons_append, List.nil_append, if_true, if_false, Bool.false_eq_true, Bool.true_eq_false, reduceIte, Bool.not_true, Bool.not_false, Bool.and_true, Bool.true_and, Bool.and_false, Bool.false_and, Bool.or_true, Bool.true_or, Bool.or_false, Bool.false_or, decide_eq_true_eq, Nat.reduceAdd, Nat.reduceLeDiff, Nat.zero_add, Int.reduceLT, Int.reduceLE, Int.reduceEq, Int.reduceNeg, Nat.reduceEqDiff, and_self, and_true, true_and, decide_true, decide_false, eq_self, ite_true, ite_false, Int.reduceSub, Int.reduceAdd, Int.cast_ofNat_Int, Int.natCast_add, Int.cast_ofNat_Int, Nat.reduceSub, Nat.add_assoc, String.reduceBEq, String.reduceEq, Bool.or_not_self, beq_self_eq_true]
  refine okR_use (lisSetup_wp hG) fun a s6 h => ?_
  obtain ⟨rfl, k6, rfl⟩ := h
  rcases hl with rfl | ⟨fs', cs', l', d', rfl, hG'⟩
  · have nn : isNon A.non = true := rfl
    simp only [wp_okR, wp_okF, wp_fin, wp_next, wp_then, wp_bind, wp_nox, wp_tK, wp_bK, wp_fr, wp_fn, wp_nn, wp_nr, wp_nb, wp_nc, wp_ln, wp_lc, wp_lb, wp_lr, wp_jn, wp_jc, ev_bok, ev_bno, ev_bex, ev_tok, ev_tno, ev_tex, ev_nnx, ev_nrt, ev_nbk, ev_nct, ev_nex, ev_nno, ev_frt, ev_fnx, ev_fex, ev_xok, ev_lsome, ev_lnone, ev_seq, ev_if, ev_ret, ev_retN, ev_drop, ev_nop, ev_brk, ev_cont, ev_asgN, ev_asgT, ev_asgO, ev_mgTup, ev_mgN, ev_mgC, ev_mg0, ev_putL, ev_putO, ev_var, ev_vr, ev_c, ev_op, ev_un, ev_test, ev_tb, ev_notT, ev_andT, ev_orT, ev_ifE, ev_not, ev_nb, ev_and, ev_andK, ev_or, ev_orK, ev_chain, ev_chK, ev_nil, ev_cons, ev_tup, ev_lst, ev_new, ev_call, ev_cb, ev_size, ev_addI, ev_addS, ev_addT, ev_addL, ev_catO, ev_sub, ev_mul, ev_div, ev_mod, ev_p5, ev_p6, ev_p12, ev_p18, ev_p30, ev_neg, ev_ltI, ev_ltS, ev_leI, ev_leS, ev_gt, ev_ge, ev_eqI, ev_eqS, ev_neI, ev_neS, ev_neB, ev_eqB, ev_is, ev_isnot, ev_ixT, ev_ixS, ev_ixR, ev_ixL, ev_ixK, ev_getL, ev_getM, ev_gL, ev_gM, ev_at0, ev_at1, ev_at2, ev_at3, ev_at4, ev_lenS, ev_lenR, ev_lenT, ev_lenL, ev_lenO, ev_lenD, ev_abs, ev_min2, ev_max2, ev_intI, ev_intB, ev_set, ev_fc, ev_setset, ev_last, ev_appk, ev_app0, ev_setk, ev_set0, ev_assoc, ev_lapp, ev_lappA, ev_sl, ev_nopart, ev_part, ev_ptK, ev_slT, ev_slS, ev_slR, ev_slK, ev_tyN, ev_tyB, ev_tyI, ev_tyS, ev_tyT, ev_tyL, ev_tyR, ev_tyRL, ev_isi, ev_isi1, ev_isi2, ev_isi3, ev_isi4, ev_isi5, ev_isiT, ev_isi2K, ev_isTy, ev_list, ev_listK, ev_tuple, ev_tupK, ev_getST, ev_getSR, ev_getSL, ev_all, ev_allK, ev_eqXI, ev_eqXS, ev_neXI, ev_neXS, ev_neXB, ev_eqXB, ev_eqXR, ev_neXR, ev_nil2, ev_eqK, ev_neK, ev_meth, ev_meth0, ev_mth1, ev_mth2, ev_mth3, ev_append, ev_m0, ev_m0K, ev_str, ev_for, ev_miR1, ev_rg1K, ev_miL, ev_liK, ev_miT, ev_tiK, ev_lc, ev_wipe0, ev_wipeS, ev_yes, ev_lenSet, ev_lenSetK, ev_listR, ev_lrK, ev_put2, ev_p2A, ev_p2K, ev_p2E, ev_put1, ev_pt1, ev_addXI, ev_addXB, ev_addXS, ev_addXT, ev_addXL, ev_subXI, ev_subXB, ev_mulXI, ev_mulXB, ev_mulXL, ev_negXI, ev_negXB, ev_strXI, ev_strXB, ev_mulYI, ev_mulYB, ev_mulYL, ev_mulYT, ev_dnew, ev_dnewT, ev_dgetE, ev_getD, ev_gD, ev_keyI, ev_keyS, ev_dgK, ev_dinE, ev_diK, ev_dputE, ev_dpK, ev_dget2E, ev_isDA, ev_isSome, ev_isNone, ev_dg2K, ev_dpop2E, ev_dp2K, ev_dp3S, ev_dp3N, ev_sortedE, ev_srO1, ev_srO2, ev_gLd, ev_srKS, ev_srKI, ev_gDT, ev_gT, ev_tinE, ev_tiKK, ev_keysA, ev_keysN, ev_keysC, ev_dputTE, ev_dptK, ev_dispE, ev_mpN, ev_mpC, ev_pcK, ev_dsK, ev_dsK2, ev_lc2E, ev_imp, ev_simp, ev_split, ev_splF, ev_splG, ev_fmt, ev_fmtS, ev_fmtI, ev_addK, ev_js0, ev_js1, ev_joined, ev_star, ev_starK, ev_each2, ev_each2K, ev_unl, ev_unlK, ev_intS, ev_strYS, ev_strYI, ev_mjoin, ev_joinG, ev_joinK, ev_sbind, ev_miS, ev_siK, List.getElem?_cons_zero, List.getElem?_cons_succ, List.set_cons_zero, List.set_cons_succ, List.length_cons, List.length_nil, List.cons_append, List.nil_append, if_true, if_false, Bool.false_eq_true, Bool.true_eq_false, reduceIte, Bool.not_true, Bool.not_false, Bool.and_true, Bool.true_and, Bool.and_false, Bool.false_and, Bool.or_true, Bool.true_or, Bool.or_false, Bool.false_or, decide_eq_true_eq, Nat.reduceAdd, Nat.reduceLeDiff, Nat.zero_add, Int.reduceLT, Int.reduceLE, Int.reduceEq, Int.reduceNeg, Nat.reduceEqDiff, and_self, and_true, true_and, decide_true, decide_false, eq_self, ite_true, ite_false, Int.reduceSub, Int.reduceAdd, Int.cast_ofNat_Int, Int.natCast_add, Int.cast_ofNat_Int, Nat.reduceSub, Nat.add_assoc, String.reduceBEq, String.reduceEq, Bool.or_not_self, beq_self_eq_true, nn]
    exact ⟨_, _, _, _, rfl, .inr ⟨fs, cs, l, d, rfl, hG⟩⟩
  · have nn : isNon (setA fs' cs' l' d') = false := rfl
    simp only [wp_okR, wp_okF, wp_fin, wp_next, wp_then, wp_bind, wp_nox, wp_tK, wp_bK, wp_fr, wp_fn, wp_nn, wp_nr, wp_nb, wp_nc, wp_ln, wp_lc, wp_lb, wp_lr, wp_jn, wp_jc, ev_bok, ev_bno, ev_bex, ev_tok, ev_tno, ev_tex, ev_nnx, ev_nrt, ev_nbk, ev_nct, ev_nex, ev_nno, ev_frt, ev_fnx, ev_fex, ev_xok, ev_lsome, ev_lnone, ev_seq, ev_if, ev_ret, ev_retN, ev_drop, ev_nop, ev_brk, ev_cont, ev_asgN, ev_asgT, ev_asgO, ev_mgTup, ev_mgN, ev_mgC, ev_mg0, ev_putL, ev_putO, ev_var, ev_vr, ev_c, ev_op, ev_un, ev_test, ev_tb, ev_notT, ev_andT, ev_orT, ev_ifE, ev_not, ev_nb, ev_and, ev_andK, ev_or, ev_orK, ev_chain, ev_chK, ev_nil, ev_cons, ev_tup, ev_lst, ev_new, ev_call, ev_cb, ev_size, ev_addI, ev_addS, ev_addT, ev_addL, ev_catO, ev_sub, ev_mul, ev_div, ev_mod, ev_p5, ev_p6, ev_p12, ev_p18, ev_p30, ev_neg, ev_ltI, ev_ltS, ev_leI, ev_leS, ev_gt, ev_ge, ev_eqI, ev_eqS, ev_neI, ev_neS, ev_neB, ev_eqB, ev_is, ev_isnot, ev_ixT, ev_ixS, ev_ixR, ev_ixL, ev_ixK, ev_getL, ev_getM, ev_gL, ev_gM, ev_at0, ev_at1, ev_at2, ev_at3, ev_at4, ev_lenS, ev_lenR, ev_lenT, ev_lenL, ev_lenO, ev_lenD, ev_abs, ev_min2, ev_max2, ev_intI, ev_intB, ev_set, ev_fc, ev_setset, ev_last, ev_appk, ev_app0, ev_setk, ev_set0, ev_assoc, ev_lapp, ev_lappA, ev_sl, ev_nopart, ev_part, ev_ptK, ev_slT, ev_slS, ev_slR, ev_slK, ev_tyN, ev_tyB, ev_tyI, ev_tyS, ev_tyT, ev_tyL, ev_tyR, ev_tyRL, ev_isi, ev_isi1, ev_isi2, ev_isi3, ev_isi4, ev_isi5, ev_isiT, ev_isi2K, ev_isTy, ev_list, ev_listK, ev_tuple, ev_tupK, ev_getST, ev_getSR, ev_getSL, ev_all, ev_allK, ev_eqXI, ev_eqXS, ev_neXI, ev_neXS, ev_neXB, ev_eqXB, ev_eqXR, ev_neXR, ev_nil2, ev_eqK, ev_neK, ev_meth, ev_meth0, ev_mth1, ev_mth2, ev_mth3, ev_append, ev_m0, ev_m0K, ev_str, ev_for, ev_miR1, ev_rg1K, ev_miL, ev_liK, ev_miT, ev_tiK, ev_lc, ev_wipe0, ev_wipeS, ev_yes, ev_lenSet, ev_lenSetK, ev_listR, ev_lrK, ev_put2, ev_p2A, ev_p2K, ev_p2E, ev_put1, ev_pt1, ev_addXI, ev_addXB, ev_addXS, ev_addXT, ev_addXL, ev_subXI, ev_subXB, ev_mulXI, ev_mulXB, ev_mulXL, ev_negXI, ev_negXB, ev_strXI, ev_strXB, ev_mulYI, ev_mulYB, ev_mulYL, ev_mulYT, ev_dnew, ev_dnewT, ev_dgetE, ev_getD, ev_gD, ev_keyI, ev_keyS, ev_dgK, ev_dinE, ev_diK, ev_dputE, ev_dpK, ev_dget2E, ev_isDA, ev_isSome, ev_isNone, ev_dg2K, ev_dpop2E, ev_dp2K, ev_dp3S, ev_dp3N, ev_sortedE, ev_srO1, ev_srO2, ev_gLd, ev_srKS, ev_srKI, ev_gDT, ev_gT, ev_tinE, ev_tiKK, ev_keysA, ev_keysN, ev_keysC, ev_dputTE, ev_dptK, ev_dispE, ev_mpN, ev_mpC, ev_pcK, ev_dsK, ev_dsK2, ev_lc2E, ev_imp, ev_simp, ev_split, ev_splF, ev_splG, ev_fmt, ev_fmtS, ev_fmtI, ev_addK, ev_js0, ev_js1, ev_joined, ev_star, ev_starK, ev_each2, ev_each2K, ev_unl, ev_unlK, ev_intS, ev_strYS, ev_strYI, ev_mjoin, ev_joinG, ev_joinK, ev_sbind, ev_miS, ev_siK, List.getElem?_cons_zero, List.getElem?_cons_succ, List.set_cons_zero, List.set_cons_succ, List.length_cons, List.length_nil, List.cons_append, List.nil_append, if_true, if_false, Bool.false_eq_true, Bool.true_eq_false, reduceIte, Bool.not_true, Bool.not_false, Bool.and_true, Bool.true_and, Bool.and_false, Bool.false_and, Bool.or_true, Bool.true_or, Bool.or_false, Bool.false_or, decide_eq_true_eq, Nat.reduceAdd, Nat.reduceLeDiff, Nat.zero_add, Int.reduceLT, Int.reduceLE, Int.reduceEq, Int.reduceNeg, Nat.reduceEqDiff, and_self, and_true, true_and, decide_true, decide_false, eq_self, ite_true, ite_false, Int.reduceSub, Int.reduceAdd, Int.cast_ofNat_Int, Int.natCast_add, Int.cast_ofNat_Int, Nat.reduceSub, Nat.add_assoc, String.reduceBEq, String.reduceEq, Bool.or_not_self, beq_self_eq_true, nn]
    refine okR_use (setupText_wp hG') fun a s7 h => ?_
    obtain ⟨rfl, k7, rfl⟩ := h
    simp only [wp_okR, wp_okF, wp_fin, wp_next, wp_then, wp_bind, wp_nox, wp_tK, wp_bK, wp_fr, wp_fn, wp_nn, wp_nr, wp_nb, wp_nc, wp_ln, wp_lc, wp_lb, wp_lr, wp_jn, wp_jc, ev_bok, ev_bno, ev_bex, ev_tok, ev_tno, ev_tex, ev_nnx, ev_nrt, ev_nbk, ev_nct, ev_nex, ev_nno, ev_frt, ev_fnx, ev_fex, ev_xok, ev_lsome, ev_lnone, ev_seq, ev_if, ev_ret, ev_retN, ev_drop, ev_nop, ev_brk, ev_cont, ev_asgN, ev_asgT, ev_asgO, ev_mgTup, ev_mgN, ev_mgC, ev_mg0, ev_putL, ev_putO, ev_var, ev_vr, ev_c, ev_op, ev_un, ev_test, ev_tb, ev_notT, ev_andT, ev_orT, ev_ifE, ev_not, ev_nb, ev_and, ev_andK, ev_or, ev_orK, ev_chain, ev_chK, ev_nil, ev_cons, ev_tup, ev_lst, ev_new, ev_call, ev_cb, ev_size, ev_addI, ev_addS, ev_addT, ev_addL, ev_catO, ev_sub, ev_mul, ev_div, ev_mod, ev_p5, ev_p6, ev_p12, ev_p18, ev_p30, ev_neg, ev_ltI, ev_ltS, ev_leI, ev_leS, ev_gt, ev_ge, ev_eqI, ev_eqS, ev_neI, ev_neS, ev_neB, ev_eqB, ev_is, ev_isnot, ev_ixT, ev_ixS, ev_ixR, ev_ixL, ev_ixK, ev_getL, ev_getM, ev_gL, ev_gM, ev_at0, ev_at1, ev_at2, ev_at3, ev_at4, ev_lenS, ev_lenR, ev_lenT, ev_lenL, ev_lenO, ev_lenD, ev_abs, ev_min2, ev_max2, ev_intI, ev_intB, ev_set, ev_fc, ev_setset, ev_last, ev_appk, ev_app0, ev_setk, ev_set0, ev_assoc, ev_lapp, ev_lappA, ev_sl, ev_nopart, ev_part, ev_ptK, ev_slT, ev_slS, ev_slR, ev_slK, ev_tyN, ev_tyB, ev_tyI, ev_tyS, ev_tyT, ev_tyL, ev_tyR, ev_tyRL, ev_isi, ev_isi1, ev_isi2, ev_isi3, ev_isi4, ev_isi5, ev_isiT, ev_isi2K, ev_isTy, ev_list, ev_listK, ev_tuple, ev_tupK, ev_getST, ev_getSR, ev_getSL, ev_all, ev_allK, ev_eqXI, ev_eqXS, ev_neXI, ev_neXS, ev_neXB, ev_eqXB, ev_eqXR, ev_neXR, ev_nil2, ev_eqK, ev_neK, ev_meth, ev_meth0, ev_mth1, ev_mth2, ev_mth3, ev_append, ev_m0, ev_m0K, ev_str, ev_for, ev_miR1, ev_rg1K, ev_miL, ev_liK, ev_miT, ev_tiK, ev_lc, ev_wipe0, ev_wipeS, ev_yes, ev_lenSet, ev_lenSetK, ev_listR, ev_lrK, ev_put2, ev_p2A, ev_p2K, ev_p2E, ev_put1, ev_pt1, ev_addXI, ev_addXB, ev_addXS, ev_addXT, ev_addXL, ev_subXI, ev_subXB, ev_mulXI, ev_mulXB, ev_mulXL, ev_negXI, ev_negXB, ev_strXI, ev_strXB, ev_mulYI, ev_mulYB, ev_mulYL, ev_mulYT, ev_dnew, ev_dnewT, ev_dgetE, ev_getD, ev_gD, ev_keyI, ev_keyS, ev_dgK, ev_dinE, ev_diK, ev_dputE, ev_dpK, ev_dget2E, ev_isDA, ev_isSome, ev_isNone, ev_dg2K, ev_dpop2E, ev_dp2K, ev_dp3S, ev_dp3N, ev_sortedE, ev_srO1, ev_srO2, ev_gLd, ev_srKS, ev_srKI, ev_gDT, ev_gT, ev_tinE, ev_tiKK, ev_keysA, ev_keysN, ev_keysC, ev_dputTE, ev_dptK, ev_dispE, ev_mpN, ev_mpC, ev_pcK, ev_dsK, ev_dsK2, ev_lc2E, ev_imp, ev_simp, ev_split, ev_splF, ev_splG, ev_fmt, ev_fmtS, ev_fmtI, ev_addK, ev_js0, ev_js1, ev_joined, ev_star, ev_starK, ev_each2, ev_each2K, ev_unl, ev_unlK, ev_intS, ev_strYS, ev_strYI, ev_mjoin, ev_joinG, ev_joinK, ev_sbind, ev_miS, ev_siK, List.getElem?_cons_zero, List.getElem?_cons_succ, List.set_cons_zero, List.set_cons_succ, List.length_cons, List.length_nil, List.cons_append, List.nil_append, if_true, if_false, Bool.false_eq_true, Bool.true_eq_false, reduceIte, Bool.not_true, Bool.not_false, Bool.and_true, Bool.true_and, Bool.and_false, Bool.false_and, Bool.or_true, Bool.true_or, Bool.or_false, Bool.false_or, decide_eq_true_eq, Nat.reduceAdd, Nat.reduceLeDiff, Nat.zero_add, Int.reduceLT, Int.reduceLE, Int.reduceEq, Int.reduceNeg, Nat.reduceEqDiff, and_self, and_true, true_and, decide_true, decide_false, eq_self, ite_true, ite_false, Int.reduceSub, Int.reduceAdd, Int.cast_ofNat_Int, Int.natCast_add, Int.cast_ofNat_Int, Nat.reduceSub, Nat.add_assoc, String.reduceBEq, String.reduceEq, Bool.or_not_self, beq_self_eq_true, set_same hG hG']
    exact ⟨_, _, _, _, rfl, .inr ⟨fs, cs, l, d, rfl, hG⟩⟩
theorem law_true : ∀ ns : List Int, ns.length ≤ 63 → ∃ st, m_law [.lit (ns.map A.int)] [] = .ok (.bl true) st := fun ns hl => by
  obtain ⟨m, hm, hm2⟩ : ∃ m : Int, m = 1 + (if (30 : Int) < (ns.length : Nat) then 30 else ((ns.length : Nat) : Int)) ∧ m < 100 ∧ 0 ≤ m := ⟨_, rfl, by split <;> omega, by split <;> omega⟩
  have key : okR (m_law [.lit (ns.map A.int)] []) fun a _ => a = .bl true := by
    rw [st_law]
    unfold b_law
    have c1 : (-(2 ^ 62) ≤ m ∧ m < 2 ^ 62) = True := eq_true ⟨by omega, by omega⟩
    rw [← List.length_map (f := A.int) (as := ns)] at hm
    simp only [wp_okR, wp_okF, wp_fin, wp_next, wp_then, wp_bind, wp_nox, wp_tK, wp_bK, wp_fr, wp_fn, wp_nn, wp_nr, wp_nb, wp_nc, wp_ln, wp_lc, wp_lb, wp_lr, wp_jn, wp_jc, ev_bok, ev_bno, ev_bex, ev_tok, ev_tno, ev_tex, ev_nnx, ev_nrt, ev_nbk, ev_nct, ev_nex, ev_nno, ev_frt, ev_fnx, ev_fex, ev_xok, ev_lsome, ev_lnone, ev_seq, ev_if, ev_ret, ev_retN, ev_drop, ev_nop, ev_brk, ev_cont, ev_asgN, ev_asgT, ev_asgO, ev_mgTup, ev_mgN, ev_mgC, ev_mg0, ev_putL, ev_putO, ev_var, ev_vr, ev_c, ev_op, ev_un, ev_test, ev_tb, ev_notT, ev_andT, ev_orT, ev_ifE, ev_not, ev_nb, ev_and, ev_andK, ev_or, ev_orK, ev_chain, ev_chK, ev_nil, ev_cons, ev_tup, ev_lst, ev_new, ev_call, ev_cb, ev_size, ev_addI, ev_addS, ev_addT, ev_addL, ev_catO, ev_sub, ev_mul, ev_div, ev_mod, ev_p5, ev_p6, ev_p12, ev_p18, ev_p30, ev_neg, ev_ltI, ev_ltS, ev_leI, ev_leS, ev_gt, ev_ge, ev_eqI, ev_eqS, ev_neI, ev_neS, ev_neB, ev_eqB, ev_is, ev_isnot, ev_ixT, ev_ixS, ev_ixR, ev_ixL, ev_ixK, ev_getL, ev_getM, ev_gL, ev_gM, ev_at0, ev_at1, ev_at2, ev_at3, ev_at4, ev_lenS, ev_lenR, ev_lenT, ev_lenL, ev_lenO, ev_lenD, ev_abs, ev_min2, ev_max2, ev_intI, ev_intB, ev_set, ev_fc, ev_setset, ev_last, ev_appk, ev_app0, ev_setk, ev_set0, ev_assoc, ev_lapp, ev_lappA, ev_sl, ev_nopart, ev_part, ev_ptK, ev_slT, ev_slS, ev_slR, ev_slK, ev_tyN, ev_tyB, ev_tyI, ev_tyS, ev_tyT, ev_tyL, ev_tyR, ev_tyRL, ev_isi, ev_isi1, ev_isi2, ev_isi3, ev_isi4, ev_isi5, ev_isiT, ev_isi2K, ev_isTy, ev_list, ev_listK, ev_tuple, ev_tupK, ev_getST, ev_getSR, ev_getSL, ev_all, ev_allK, ev_eqXI, ev_eqXS, ev_neXI, ev_neXS, ev_neXB, ev_eqXB, ev_eqXR, ev_neXR, ev_nil2, ev_eqK, ev_neK, ev_meth, ev_meth0, ev_mth1, ev_mth2, ev_mth3, ev_append, ev_m0, ev_m0K, ev_str, ev_for, ev_miR1, ev_rg1K, ev_miL, ev_liK, ev_miT, ev_tiK, ev_lc, ev_wipe0, ev_wipeS, ev_yes, ev_lenSet, ev_lenSetK, ev_listR, ev_lrK, ev_put2, ev_p2A, ev_p2K, ev_p2E, ev_put1, ev_pt1, ev_addXI, ev_addXB, ev_addXS, ev_addXT, ev_addXL, ev_subXI, ev_subXB, ev_mulXI, ev_mulXB, ev_mulXL, ev_negXI, ev_negXB, ev_strXI, ev_strXB, ev_mulYI, ev_mulYB, ev_mulYL, ev_mulYT, ev_dnew, ev_dnewT, ev_dgetE, ev_getD, ev_gD, ev_keyI, ev_keyS, ev_dgK, ev_dinE, ev_diK, ev_dputE, ev_dpK, ev_dget2E, ev_isDA, ev_isSome, ev_isNone, ev_dg2K, ev_dpop2E, ev_dp2K, ev_dp3S, ev_dp3N, ev_sortedE, ev_srO1, ev_srO2, ev_gLd, ev_srKS, ev_srKI, ev_gDT, ev_gT, ev_tinE, ev_tiKK, ev_keysA, ev_keysN, ev_keysC, ev_dputTE, ev_dptK, ev_dispE, ev_mpN, ev_mpC, ev_pcK, ev_dsK, ev_dsK2, ev_lc2E, ev_imp, ev_simp, ev_split, ev_splF, ev_splG, ev_fmt, ev_fmtS, ev_fmtI, ev_addK, ev_js0, ev_js1, ev_joined, ev_star, ev_starK, ev_each2, ev_each2K, ev_unl, ev_unlK, ev_intS, ev_strYS, ev_strYI, ev_mjoin, ev_joinG, ev_joinK, ev_sbind, ev_miS, ev_siK, List.getElem?_cons_zero, List.getElem?_cons_succ, List.set_cons_zero, List.set_cons_succ, List.length_cons, List.length_nil, List.cons_append, List.nil_append, if_true, if_false, Bool.false_eq_true, Bool.true_eq_false, reduceIte, Bool.not_true, Bool.not_false, Bool.and_true, Bool.true_and, Bool.and_false, Bool.false_and, Bool.or_true, Bool.true_or, Bool.or_false, Bool.false_or, decide_eq_true_eq, Nat.reduceAdd, Nat.reduceLeDiff, Nat.zero_add, Int.reduceLT, Int.reduceLE, Int.reduceEq, Int.reduceNeg, Nat.reduceEqDiff, and_self, and_true, true_and, decide_true, decide_false, eq_self, ite_true, ite_false, Int.reduceSub, Int.reduceAdd, Int.cast_ofNat_Int, Int.natCast_add, Int.cast_ofNat_Int, Nat.reduceSub, Nat.add_assoc, String.reduceBEq, String.reduceEq, Bool.or_not_self, beq_self_eq_true, ← hm, c1]
    refine forL_wp (j := 0) (fun _ env _ => ∃ last z2 z3 z4 z5, env = [some (.lit (ns.map A.int)), some last, z2, z3, z4, z5] ∧ LastG last) (fun _ _ _ _ => trivial) ⟨_, _, _, _, _, rfl, .inl rfl⟩ (fun i x env S hx hI => ?_) (fun env S hI => ?_)
    · obtain ⟨last, z2, z3, z4, z5, rfl, hL⟩ := hI
      obtain ⟨rfl, hi⟩ := rngA_get hx
      refine ⟨_, rfl, okF_use (cell_wp (by omega) hL) fun fl t ht => ?_⟩
      obtain ⟨last', z3, z4, z5, rfl, hL'⟩ := ht
      exact ⟨_, _, _, _, _, rfl, hL'⟩
    · obtain ⟨last, z2, z3, z4, z5, rfl, hL⟩ := hI
      simp only [wp_okR, wp_okF, wp_fin, wp_next, wp_then, wp_bind, wp_nox, wp_tK, wp_bK, wp_fr, wp_fn, wp_nn, wp_nr, wp_nb, wp_nc, wp_ln, wp_lc, wp_lb, wp_lr, wp_jn, wp_jc, ev_bok, ev_bno, ev_bex, ev_tok, ev_tno, ev_tex, ev_nnx, ev_nrt, ev_nbk, ev_nct, ev_nex, ev_nno, ev_frt, ev_fnx, ev_fex, ev_xok, ev_lsome, ev_lnone, ev_seq, ev_if, ev_ret, ev_retN, ev_drop, ev_nop, ev_brk, ev_cont, ev_asgN, ev_asgT, ev_asgO, ev_mgTup, ev_mgN, ev_mgC, ev_mg0, ev_putL, ev_putO, ev_var, ev_vr, ev_c, ev_op, ev_un, ev_test, ev_tb, ev_notT, ev_andT, ev_orT, ev_ifE, ev_not, ev_nb, ev_and, ev_andK, ev_or, ev_orK, ev_chain, ev_chK, ev_nil, ev_cons, ev_tup, ev_lst, ev_new, ev_call, ev_cb, ev_size, ev_addI, ev_addS, ev_addT, ev_addL, ev_catO, ev_sub, ev_mul, ev_div, ev_mod, ev_p5, ev_p6, ev_p12, ev_p18, ev_p30, ev_neg, ev_ltI, ev_ltS, ev_leI, ev_leS, ev_gt, ev_ge, ev_eqI, ev_eqS, ev_neI, ev_neS, ev_neB, ev_eqB, ev_is, ev_isnot, ev_ixT, ev_ixS, ev_ixR, ev_ixL, ev_ixK, ev_getL, ev_getM, ev_gL, ev_gM, ev_at0, ev_at1, ev_at2, ev_at3, ev_at4, ev_lenS, ev_lenR, ev_lenT, ev_lenL, ev_lenO, ev_lenD, ev_abs, ev_min2, ev_max2, ev_intI, ev_intB, ev_set, ev_fc, ev_setset, ev_last, ev_appk, ev_app0, ev_setk, ev_set0, ev_assoc, ev_lapp, ev_lappA, ev_sl, ev_nopart, ev_part, ev_ptK, ev_slT, ev_slS, ev_slR, ev_slK, ev_tyN, ev_tyB, ev_tyI, ev_tyS, ev_tyT, ev_tyL, ev_tyR, ev_tyRL, ev_isi, ev_isi1, ev_isi2, ev_isi3, ev_isi4, ev_isi5, ev_isiT, ev_isi2K, ev_isTy, ev_list, ev_listK, ev_tuple, ev_tupK, ev_getST, ev_getSR, ev_getSL, ev_all, ev_allK, ev_eqXI, ev_eqXS, ev_neXI, ev_neXS, ev_neXB, ev_eqXB, ev_eqXR, ev_neXR, ev_nil2, ev_eqK, ev_neK, ev_meth, ev_meth0, ev_mth1, ev_mth2, ev_mth3, ev_append, ev_m0, ev_m0K, ev_str, ev_for, ev_miR1, ev_rg1K, ev_miL, ev_liK, ev_miT, ev_tiK, ev_lc, ev_wipe0, ev_wipeS, ev_yes, ev_lenSet, ev_lenSetK, ev_listR, ev_lrK, ev_put2, ev_p2A, ev_p2K, ev_p2E, ev_put1, ev_pt1, ev_addXI, ev_addXB, ev_addXS, ev_addXT, ev_addXL, ev_subXI, ev_subXB, ev_mulXI, ev_mulXB, ev_mulXL, ev_negXI, ev_negXB, ev_strXI, ev_strXB, ev_mulYI, ev_mulYB, ev_mulYL, ev_mulYT, ev_dnew, ev_dnewT, ev_dgetE, ev_getD, ev_gD, ev_keyI, ev_keyS, ev_dgK, ev_dinE, ev_diK, ev_dputE, ev_dpK, ev_dget2E, ev_isDA, ev_isSome, ev_isNone, ev_dg2K, ev_dpop2E, ev_dp2K, ev_dp3S, ev_dp3N, ev_sortedE, ev_srO1, ev_srO2, ev_gLd, ev_srKS, ev_srKI, ev_gDT, ev_gT, ev_tinE, ev_tiKK, ev_keysA, ev_keysN, ev_keysC, ev_dputTE, ev_dptK, ev_dispE, ev_mpN, ev_mpC, ev_pcK, ev_dsK, ev_dsK2, ev_lc2E, ev_imp, ev_simp, ev_split, ev_splF, ev_splG, ev_fmt, ev_fmtS, ev_fmtI, ev_addK, ev_js0, ev_js1, ev_joined, ev_star, ev_starK, ev_each2, ev_each2K, ev_unl, ev_unlK, ev_intS, ev_strYS, ev_strYI, ev_mjoin, ev_joinG, ev_joinK, ev_sbind, ev_miS, ev_siK, List.getElem?_cons_zero, List.getElem?_cons_succ, List.set_cons_zero, List.set_cons_succ, List.length_cons, List.length_nil, List.cons_append, List.nil_append, if_true, if_false, Bool.false_eq_true, Bool.true_eq_false, reduceIte, Bool.not_true, Bool.not_false, Bool.and_true, Bool.true_and, Bool.and_false, Bool.false_and, Bool.or_true, Bool.true_or, Bool.or_false, Bool.false_or, decide_eq_true_eq, Nat.reduceAdd, Nat.reduceLeDiff, Nat.zero_add, Int.reduceLT, Int.reduceLE, Int.reduceEq, Int.reduceNeg, Nat.reduceEqDiff, and_self, and_true, true_and, decide_true, decide_false, eq_self, ite_true, ite_false, Int.reduceSub, Int.reduceAdd, Int.cast_ofNat_Int, Int.natCast_add, Int.cast_ofNat_Int, Nat.reduceSub, Nat.add_assoc, String.reduceBEq, String.reduceEq, Bool.or_not_self, beq_self_eq_true]
  obtain ⟨a, s, e, rfl⟩ := okR_out key
  exact ⟨s, e⟩

end
theorem all_mk {l : PySem.W.OpenLaw} {w : World} {K : PySem.W.Frag} {h : Heap} {mg : Str → Option Value} {fa f0 f1 f2 f3 f4 f5 f6 f7 f8 f9 f10 f11 f12 f13 f14 f15 f16 f17 f18 f19 f20 f21 f22 f23 f24 f25 f26 f27 f28 f29 : Addr} (X : K.In h) (G : h.Ns mainGlobals mg) (hfa : mg "law" = some (.ref fa))
    {od0 an0 : Option Addr} {sl0 : Array (Option Value)} {oc0 kV0 dc0 pm0 cd0 ct0 : Value} {od1 an1 : Option Addr} {sl1 : Array (Option Value)} {oc1 kV1 dc1 pm1 cd1 ct1 : Value} {od2 an2 : Option Addr} {sl2 : Array (Option Value)} {oc2 kV2 dc2 pm2 cd2 ct2 : Value} {od3 an3 : Option Addr} {sl3 : Array (Option Value)} {oc3 kV3 dc3 pm3 cd3 ct3 : Value} {od4 an4 : Option Addr} {sl4 : Array (Option Value)} {oc4 kV4 dc4 pm4 cd4 ct4 : Value} {od5 an5 : Option Addr} {sl5 : Array (Option Value)} {oc5 kV5 dc5 pm5 cd5 ct5 : Value} {od6 an6 : Option Addr} {sl6 : Array (Option Value)} {oc6 kV6 dc6 pm6 cd6 ct6 : Value} {od7 an7 : Option Addr} {sl7 : Array (Option Value)} {oc7 kV7 dc7 pm7 cd7 ct7 : Value} {od8 an8 : Option Addr} {sl8 : Array (Option Value)} {oc8 kV8 dc8 pm8 cd8 ct8 : Value} {od9 an9 : Option Addr} {sl9 : Array (Option Value)} {oc9 kV9 dc9 pm9 cd9 ct9 : Value} {od10 an10 : Option Addr} {sl10 : Array (Option Value)} {oc10 kV10 dc10 pm10 cd10 ct10 : Value} {od11 an11 : Option Addr} {sl11 : Array (Option Value)} {oc11 kV11 dc11 pm11 cd11 ct11 : Value} {od12 an12 : Option Addr} {sl12 : Array (Option Value)} {oc12 kV12 dc12 pm12 cd12 ct12 : Value} {od13 an13 : Option Addr} {sl13 : Array (Option Value)} {oc13 kV13 dc13 pm13 cd13 ct13 : Value} {od14 an14 : Option Addr} {sl14 : Array (Option Value)} {oc14 kV14 dc14 pm14 cd14 ct14 : Value} {od15 an15 : Option Addr} {sl15 : Array (Option Value)} {oc15 kV15 dc15 pm15 cd15 ct15 : Value} {od16 an16 : Option Addr} {sl16 : Array (Option Value)} {oc16 kV16 dc16 pm16 cd16 ct16 : Value} {od17 an17 : Option Addr} {sl17 : Array (Option Value)} {oc17 kV17 dc17 pm17 cd17 ct17 : Value} {od18 an18 : Option Addr} {sl18 : Array (Option Value)} {oc18 kV18 dc18 pm18 cd18 ct18 : Value} {od19 an19 : Option Addr} {sl19 : Array (Option Value)} {oc19 kV19 dc19 pm19 cd19 ct19 : Value} {od20 an20 : Option Addr} {sl20 : Array (Option Value)} {oc20 kV20 dc20 pm20 cd20 ct20 : Value} {od21 an21 : Option Addr} {sl21 : Array (Option Value)} {oc21 kV21 dc21 pm21 cd21 ct21 : Value} {od22 an22 : Option Addr} {sl22 : Array (Option Value)} {oc22 kV22 dc22 pm22 cd22 ct22 : Value} {od23 an23 : Option Addr} {sl23 : Array (Option Value)} {oc23 kV23 dc23 pm23 cd23 ct23 : Value} {od24 an24 : Option Addr} {sl24 : Array (Option Value)} {oc24 kV24 dc24 pm24 cd24 ct24 : Value} {od25 an25 : Option Addr} {sl25 : Array (Option Value)} {oc25 kV25 dc25 pm25 cd25 ct25 : Value} {od26 an26 : Option Addr} {sl26 : Array (Option Value)} {oc26 kV26 dc26 pm26 cd26 ct26 : Value} {od27 an27 : Option Addr} {sl27 : Array (Option Value)} {oc27 kV27 dc27 pm27 cd27 ct27 : Value} {od28 an28 : Option Addr} {sl28 : Array (Option Value)} {oc28 kV28 dc28 pm28 cd28 ct28 : Value} {od29 an29 : Option Addr} {sl29 : Array (Option Value)} {oc29 kV29 dc29 pm29 cd29 ct29 : Value} {ac_HEADS : Addr} {tc_HEADS_0 tc_HEADS_1 tc_HEADS_2 tc_HEADS_3 : Tok} {odc_HEADS : Option Addr} {nc_HEADS : Nat} {slc_HEADS : Array (Option Value)} {tc_LETTERS : Tok} {tc_LONGEST_NAME : Tok} {tc_SERVER : Tok} {tc_FIGURES : Tok} {tc_MOST_FIGURES : Tok}
    (a0 : PySem.W.nsIn K mainGlobals "is_whole" = some (some (.ref f0)))
    (l0 : K.lookup f0 = some ⟨oc0, od0, .func (PySem.W.fnOf "is_whole" "is_whole" (defArgs s_is_whole) (defBody s_is_whole) (defScope s_is_whole) .none kV0 dc0 pm0 an0 cd0 ct0), sl0⟩)
    (c0 : PySem.W.codeIn K cd0 "is_whole" = true) (k0 : PySem.W.keepIn K (.ref f0) = true)
    (a1 : PySem.W.nsIn K mainGlobals "is_within" = some (some (.ref f1)))
    (l1 : K.lookup f1 = some ⟨oc1, od1, .func (PySem.W.fnOf "is_within" "is_within" (defArgs s_is_within) (defBody s_is_within) (defScope s_is_within) .none kV1 dc1 pm1 an1 cd1 ct1), sl1⟩)
    (c1 : PySem.W.codeIn K cd1 "is_within" = true) (k1 : PySem.W.keepIn K (.ref f1) = true)
    (a2 : PySem.W.nsIn K mainGlobals "is_name" = some (some (.ref f2)))
    (l2 : K.lookup f2 = some ⟨oc2, od2, .func (PySem.W.fnOf "is_name" "is_name" (defArgs s_is_name) (defBody s_is_name) (defScope s_is_name) .none kV2 dc2 pm2 an2 cd2 ct2), sl2⟩)
    (c2 : PySem.W.codeIn K cd2 "is_name" = true) (k2 : PySem.W.keepIn K (.ref f2) = true)
    (a3 : PySem.W.nsIn K mainGlobals "is_tuple" = some (some (.ref f3)))
    (l3 : K.lookup f3 = some ⟨oc3, od3, .func (PySem.W.fnOf "is_tuple" "is_tuple" (defArgs s_is_tuple) (defBody s_is_tuple) (defScope s_is_tuple) .none kV3 dc3 pm3 an3 cd3 ct3), sl3⟩)
    (c3 : PySem.W.codeIn K cd3 "is_tuple" = true) (k3 : PySem.W.keepIn K (.ref f3) = true)
    (a4 : PySem.W.nsIn K mainGlobals "is_rising" = some (some (.ref f4)))
    (l4 : K.lookup f4 = some ⟨oc4, od4, .func (PySem.W.fnOf "is_rising" "is_rising" (defArgs s_is_rising) (defBody s_is_rising) (defScope s_is_rising) .none kV4 dc4 pm4 an4 cd4 ct4), sl4⟩)
    (c4 : PySem.W.codeIn K cd4 "is_rising" = true) (k4 : PySem.W.keepIn K (.ref f4) = true)
    (a5 : PySem.W.nsIn K mainGlobals "is_file" = some (some (.ref f5)))
    (l5 : K.lookup f5 = some ⟨oc5, od5, .func (PySem.W.fnOf "is_file" "is_file" (defArgs s_is_file) (defBody s_is_file) (defScope s_is_file) .none kV5 dc5 pm5 an5 cd5 ct5), sl5⟩)
    (c5 : PySem.W.codeIn K cd5 "is_file" = true) (k5 : PySem.W.keepIn K (.ref f5) = true)
    (a6 : PySem.W.nsIn K mainGlobals "is_client" = some (some (.ref f6)))
    (l6 : K.lookup f6 = some ⟨oc6, od6, .func (PySem.W.fnOf "is_client" "is_client" (defArgs s_is_client) (defBody s_is_client) (defScope s_is_client) .none kV6 dc6 pm6 an6 cd6 ct6), sl6⟩)
    (c6 : PySem.W.codeIn K cd6 "is_client" = true) (k6 : PySem.W.keepIn K (.ref f6) = true)
    (a7 : PySem.W.nsIn K mainGlobals "are_files" = some (some (.ref f7)))
    (l7 : K.lookup f7 = some ⟨oc7, od7, .func (PySem.W.fnOf "are_files" "are_files" (defArgs s_are_files) (defBody s_are_files) (defScope s_are_files) .none kV7 dc7 pm7 an7 cd7 ct7), sl7⟩)
    (c7 : PySem.W.codeIn K cd7 "are_files" = true) (k7 : PySem.W.keepIn K (.ref f7) = true)
    (a8 : PySem.W.nsIn K mainGlobals "are_clients" = some (some (.ref f8)))
    (l8 : K.lookup f8 = some ⟨oc8, od8, .func (PySem.W.fnOf "are_clients" "are_clients" (defArgs s_are_clients) (defBody s_are_clients) (defScope s_are_clients) .none kV8 dc8 pm8 an8 cd8 ct8), sl8⟩)
    (c8 : PySem.W.codeIn K cd8 "are_clients" = true) (k8 : PySem.W.keepIn K (.ref f8) = true)
    (a9 : PySem.W.nsIn K mainGlobals "is_setup" = some (some (.ref f9)))
    (l9 : K.lookup f9 = some ⟨oc9, od9, .func (PySem.W.fnOf "is_setup" "is_setup" (defArgs s_is_setup) (defBody s_is_setup) (defScope s_is_setup) .none kV9 dc9 pm9 an9 cd9 ct9), sl9⟩)
    (c9 : PySem.W.codeIn K cd9 "is_setup" = true) (k9 : PySem.W.keepIn K (.ref f9) = true)
    (a10 : PySem.W.nsIn K mainGlobals "number_of" = some (some (.ref f10)))
    (l10 : K.lookup f10 = some ⟨oc10, od10, .func (PySem.W.fnOf "number_of" "number_of" (defArgs s_number_of) (defBody s_number_of) (defScope s_number_of) .none kV10 dc10 pm10 an10 cd10 ct10), sl10⟩)
    (c10 : PySem.W.codeIn K cd10 "number_of" = true) (k10 : PySem.W.keepIn K (.ref f10) = true)
    (a11 : PySem.W.nsIn K mainGlobals "row_of" = some (some (.ref f11)))
    (l11 : K.lookup f11 = some ⟨oc11, od11, .func (PySem.W.fnOf "row_of" "row_of" (defArgs s_row_of) (defBody s_row_of) (defScope s_row_of) .none kV11 dc11 pm11 an11 cd11 ct11), sl11⟩)
    (c11 : PySem.W.codeIn K cd11 "row_of" = true) (k11 : PySem.W.keepIn K (.ref f11) = true)
    (a12 : PySem.W.nsIn K mainGlobals "rows_of" = some (some (.ref f12)))
    (l12 : K.lookup f12 = some ⟨oc12, od12, .func (PySem.W.fnOf "rows_of" "rows_of" (defArgs s_rows_of) (defBody s_rows_of) (defScope s_rows_of) .none kV12 dc12 pm12 an12 cd12 ct12), sl12⟩)
    (c12 : PySem.W.codeIn K cd12 "rows_of" = true) (k12 : PySem.W.keepIn K (.ref f12) = true)
    (a13 : PySem.W.nsIn K mainGlobals "setup_of" = some (some (.ref f13)))
    (l13 : K.lookup f13 = some ⟨oc13, od13, .func (PySem.W.fnOf "setup_of" "setup_of" (defArgs s_setup_of) (defBody s_setup_of) (defScope s_setup_of) .none kV13 dc13 pm13 an13 cd13 ct13), sl13⟩)
    (c13 : PySem.W.codeIn K cd13 "setup_of" = true) (k13 : PySem.W.keepIn K (.ref f13) = true)
    (a14 : PySem.W.nsIn K mainGlobals "rows_text" = some (some (.ref f14)))
    (l14 : K.lookup f14 = some ⟨oc14, od14, .func (PySem.W.fnOf "rows_text" "rows_text" (defArgs s_rows_text) (defBody s_rows_text) (defScope s_rows_text) .none kV14 dc14 pm14 an14 cd14 ct14), sl14⟩)
    (c14 : PySem.W.codeIn K cd14 "rows_text" = true) (k14 : PySem.W.keepIn K (.ref f14) = true)
    (a15 : PySem.W.nsIn K mainGlobals "setup_text" = some (some (.ref f15)))
    (l15 : K.lookup f15 = some ⟨oc15, od15, .func (PySem.W.fnOf "setup_text" "setup_text" (defArgs s_setup_text) (defBody s_setup_text) (defScope s_setup_text) .none kV15 dc15 pm15 an15 cd15 ct15), sl15⟩)
    (c15 : PySem.W.codeIn K cd15 "setup_text" = true) (k15 : PySem.W.keepIn K (.ref f15) = true)
    (a16 : PySem.W.nsIn K mainGlobals "read_setup" = some (some (.ref f16)))
    (l16 : K.lookup f16 = some ⟨oc16, od16, .func (PySem.W.fnOf "read_setup" "read_setup" (defArgs s_read_setup) (defBody s_read_setup) (defScope s_read_setup) .none kV16 dc16 pm16 an16 cd16 ct16), sl16⟩)
    (c16 : PySem.W.codeIn K cd16 "read_setup" = true) (k16 : PySem.W.keepIn K (.ref f16) = true)
    (a17 : PySem.W.nsIn K mainGlobals "_law_bag" = some (some (.ref f17)))
    (l17 : K.lookup f17 = some ⟨oc17, od17, .func (PySem.W.fnOf "_law_bag" "_law_bag" (defArgs s__law_bag) (defBody s__law_bag) (defScope s__law_bag) .none kV17 dc17 pm17 an17 cd17 ct17), sl17⟩)
    (c17 : PySem.W.codeIn K cd17 "_law_bag" = true) (k17 : PySem.W.keepIn K (.ref f17) = true)
    (a18 : PySem.W.nsIn K mainGlobals "_law_take" = some (some (.ref f18)))
    (l18 : K.lookup f18 = some ⟨oc18, od18, .func (PySem.W.fnOf "_law_take" "_law_take" (defArgs s__law_take) (defBody s__law_take) (defScope s__law_take) .none kV18 dc18 pm18 an18 cd18 ct18), sl18⟩)
    (c18 : PySem.W.codeIn K cd18 "_law_take" = true) (k18 : PySem.W.keepIn K (.ref f18) = true)
    (a19 : PySem.W.nsIn K mainGlobals "_law_within" = some (some (.ref f19)))
    (l19 : K.lookup f19 = some ⟨oc19, od19, .func (PySem.W.fnOf "_law_within" "_law_within" (defArgs s__law_within) (defBody s__law_within) (defScope s__law_within) .none kV19 dc19 pm19 an19 cd19 ct19), sl19⟩)
    (c19 : PySem.W.codeIn K cd19 "_law_within" = true) (k19 : PySem.W.keepIn K (.ref f19) = true)
    (a20 : PySem.W.nsIn K mainGlobals "_law_is_name" = some (some (.ref f20)))
    (l20 : K.lookup f20 = some ⟨oc20, od20, .func (PySem.W.fnOf "_law_is_name" "_law_is_name" (defArgs s__law_is_name) (defBody s__law_is_name) (defScope s__law_is_name) .none kV20 dc20 pm20 an20 cd20 ct20), sl20⟩)
    (c20 : PySem.W.codeIn K cd20 "_law_is_name" = true) (k20 : PySem.W.keepIn K (.ref f20) = true)
    (a21 : PySem.W.nsIn K mainGlobals "_law_name" = some (some (.ref f21)))
    (l21 : K.lookup f21 = some ⟨oc21, od21, .func (PySem.W.fnOf "_law_name" "_law_name" (defArgs s__law_name) (defBody s__law_name) (defScope s__law_name) .none kV21 dc21 pm21 an21 cd21 ct21), sl21⟩)
    (c21 : PySem.W.codeIn K cd21 "_law_name" = true) (k21 : PySem.W.keepIn K (.ref f21) = true)
    (a22 : PySem.W.nsIn K mainGlobals "_law_names" = some (some (.ref f22)))
    (l22 : K.lookup f22 = some ⟨oc22, od22, .func (PySem.W.fnOf "_law_names" "_law_names" (defArgs s__law_names) (defBody s__law_names) (defScope s__law_names) .none kV22 dc22 pm22 an22 cd22 ct22), sl22⟩)
    (c22 : PySem.W.codeIn K cd22 "_law_names" = true) (k22 : PySem.W.keepIn K (.ref f22) = true)
    (a23 : PySem.W.nsIn K mainGlobals "_law_setup" = some (some (.ref f23)))
    (l23 : K.lookup f23 = some ⟨oc23, od23, .func (PySem.W.fnOf "_law_setup" "_law_setup" (defArgs s__law_setup) (defBody s__law_setup) (defScope s__law_setup) .none kV23 dc23 pm23 an23 cd23 ct23), sl23⟩)
    (c23 : PySem.W.codeIn K cd23 "_law_setup" = true) (k23 : PySem.W.keepIn K (.ref f23) = true)
    (a24 : PySem.W.nsIn K mainGlobals "_law_are_rows" = some (some (.ref f24)))
    (l24 : K.lookup f24 = some ⟨oc24, od24, .func (PySem.W.fnOf "_law_are_rows" "_law_are_rows" (defArgs s__law_are_rows) (defBody s__law_are_rows) (defScope s__law_are_rows) .none kV24 dc24 pm24 an24 cd24 ct24), sl24⟩)
    (c24 : PySem.W.codeIn K cd24 "_law_are_rows" = true) (k24 : PySem.W.keepIn K (.ref f24) = true)
    (a25 : PySem.W.nsIn K mainGlobals "_law_is_setup" = some (some (.ref f25)))
    (l25 : K.lookup f25 = some ⟨oc25, od25, .func (PySem.W.fnOf "_law_is_setup" "_law_is_setup" (defArgs s__law_is_setup) (defBody s__law_is_setup) (defScope s__law_is_setup) .none kV25 dc25 pm25 an25 cd25 ct25), sl25⟩)
    (c25 : PySem.W.codeIn K cd25 "_law_is_setup" = true) (k25 : PySem.W.keepIn K (.ref f25) = true)
    (a26 : PySem.W.nsIn K mainGlobals "_law_terms" = some (some (.ref f26)))
    (l26 : K.lookup f26 = some ⟨oc26, od26, .func (PySem.W.fnOf "_law_terms" "_law_terms" (defArgs s__law_terms) (defBody s__law_terms) (defScope s__law_terms) .none kV26 dc26 pm26 an26 cd26 ct26), sl26⟩)
    (c26 : PySem.W.codeIn K cd26 "_law_terms" = true) (k26 : PySem.W.keepIn K (.ref f26) = true)
    (a27 : PySem.W.nsIn K mainGlobals "_law_setup_line" = some (some (.ref f27)))
    (l27 : K.lookup f27 = some ⟨oc27, od27, .func (PySem.W.fnOf "_law_setup_line" "_law_setup_line" (defArgs s__law_setup_line) (defBody s__law_setup_line) (defScope s__law_setup_line) .none kV27 dc27 pm27 an27 cd27 ct27), sl27⟩)
    (c27 : PySem.W.codeIn K cd27 "_law_setup_line" = true) (k27 : PySem.W.keepIn K (.ref f27) = true)
    (a28 : PySem.W.nsIn K mainGlobals "_law_no_text" = some (some (.ref f28)))
    (l28 : K.lookup f28 = some ⟨oc28, od28, .func (PySem.W.fnOf "_law_no_text" "_law_no_text" (defArgs s__law_no_text) (defBody s__law_no_text) (defScope s__law_no_text) .none kV28 dc28 pm28 an28 cd28 ct28), sl28⟩)
    (c28 : PySem.W.codeIn K cd28 "_law_no_text" = true) (k28 : PySem.W.keepIn K (.ref f28) = true)
    (a29 : PySem.W.nsIn K mainGlobals "law" = some (some (.ref f29)))
    (l29 : K.lookup f29 = some ⟨oc29, od29, .func (PySem.W.fnOf "law" "law" (defArgs s_law) (defBody s_law) (defScope s_law) .none kV29 dc29 pm29 an29 cd29 ct29), sl29⟩)
    (c29 : PySem.W.codeIn K cd29 "law" = true) (k29 : PySem.W.keepIn K (.ref f29) = true)
    (g_HEADS : PySem.W.nsIn K mainGlobals "HEADS" = some (some (.ref ac_HEADS)))
    (w_HEADS : K.lookup ac_HEADS = some ⟨.type "tuple", odc_HEADS, .seq #[.str "files" tc_HEADS_0, .str "clients" tc_HEADS_1, .str "length" tc_HEADS_2, .str "drift" tc_HEADS_3] nc_HEADS, slc_HEADS⟩)
    (g_LETTERS : PySem.W.nsIn K mainGlobals "LETTERS" = some (some (.str "abcdefghijklmnopqrstuvwxyz" tc_LETTERS)))
    (g_LONGEST_NAME : PySem.W.nsIn K mainGlobals "LONGEST_NAME" = some (some (.int 8 tc_LONGEST_NAME)))
    (g_SERVER : PySem.W.nsIn K mainGlobals "SERVER" = some (some (.str "server" tc_SERVER)))
    (g_FIGURES : PySem.W.nsIn K mainGlobals "FIGURES" = some (some (.str "0123456789" tc_FIGURES)))
    (g_MOST_FIGURES : PySem.W.nsIn K mainGlobals "MOST_FIGURES" = some (some (.int 12 tc_MOST_FIGURES)))
    (z_ValueError : PySem.W.nsIn K mainGlobals "ValueError" = some none)
    (z_abs : PySem.W.nsIn K mainGlobals "abs" = some none)
    (z_all : PySem.W.nsIn K mainGlobals "all" = some none)
    (z_bool : PySem.W.nsIn K mainGlobals "bool" = some none)
    (z_enumerate : PySem.W.nsIn K mainGlobals "enumerate" = some none)
    (z_int : PySem.W.nsIn K mainGlobals "int" = some none)
    (z_isinstance : PySem.W.nsIn K mainGlobals "isinstance" = some none)
    (z_len : PySem.W.nsIn K mainGlobals "len" = some none)
    (z_min : PySem.W.nsIn K mainGlobals "min" = some none)
    (z_range : PySem.W.nsIn K mainGlobals "range" = some none)
    (z_sorted : PySem.W.nsIn K mainGlobals "sorted" = some none)
    (z_str : PySem.W.nsIn K mainGlobals "str" = some none)
    (z_tuple : PySem.W.nsIn K mainGlobals "tuple" = some none)
    (z_zip : PySem.W.nsIn K mainGlobals "zip" = some none) :
    ∃ fd : FuncData, (∀ (s : Shared) (v : Value), BindsTo s fd ⟨[v], []⟩ [("script", v)]) ∧ ∀ base : Heap, K.In base → base.Ns mainGlobals mg → FnOk l.prog w K mg base CX0 9 fa fd ["script"] (splaw K) := by
  have N : Fre K mg := ⟨PySem.W.mg_none_of X G z_ValueError, PySem.W.mg_none_of X G z_abs, PySem.W.mg_none_of X G z_all, PySem.W.mg_none_of X G z_bool, PySem.W.mg_none_of X G z_enumerate, PySem.W.mg_none_of X G z_int, PySem.W.mg_none_of X G z_isinstance, PySem.W.mg_none_of X G z_len, PySem.W.mg_none_of X G z_min, PySem.W.mg_none_of X G z_range, PySem.W.mg_none_of X G z_sorted, PySem.W.mg_none_of X G z_str, PySem.W.mg_none_of X G z_tuple, PySem.W.mg_none_of X G z_zip, ⟨_, PySem.W.mg_of X G g_HEADS, fun H => .inr ⟨_, _, _, w_HEADS, rfl, rfl, by show 4 ≤ sizeLine; decide, (.cons ⟨_, rfl⟩ (.cons ⟨_, rfl⟩ (.cons ⟨_, rfl⟩ (.cons ⟨_, rfl⟩ .nil))))⟩⟩, ⟨_, PySem.W.mg_of X G g_LETTERS⟩, ⟨_, PySem.W.mg_of X G g_LONGEST_NAME⟩, ⟨_, PySem.W.mg_of X G g_SERVER⟩, ⟨_, PySem.W.mg_of X G g_FIGURES⟩, ⟨_, PySem.W.mg_of X G g_MOST_FIGURES⟩⟩
  have e := hfa.symm.trans (PySem.W.mg_of X G a29)
  cases e
  have F0 := fun_mk (st := s_is_whole) l0 c0 k0
  have F1 := fun_mk (st := s_is_within) l1 c1 k1
  have F2 := fun_mk (st := s_is_name) l2 c2 k2
  have F3 := fun_mk (st := s_is_tuple) l3 c3 k3
  have F4 := fun_mk (st := s_is_rising) l4 c4 k4
  have F5 := fun_mk (st := s_is_file) l5 c5 k5
  have F6 := fun_mk (st := s_is_client) l6 c6 k6
  have F7 := fun_mk (st := s_are_files) l7 c7 k7
  have F8 := fun_mk (st := s_are_clients) l8 c8 k8
  have F9 := fun_mk (st := s_is_setup) l9 c9 k9
  have F10 := fun_mk (st := s_number_of) l10 c10 k10
  have F11 := fun_mk (st := s_row_of) l11 c11 k11
  have F12 := fun_mk (st := s_rows_of) l12 c12 k12
  have F13 := fun_mk (st := s_setup_of) l13 c13 k13
  have F14 := fun_mk (st := s_rows_text) l14 c14 k14
  have F15 := fun_mk (st := s_setup_text) l15 c15 k15
  have F16 := fun_mk (st := s_read_setup) l16 c16 k16
  have F17 := fun_mk (st := s__law_bag) l17 c17 k17
  have F18 := fun_mk (st := s__law_take) l18 c18 k18
  have F19 := fun_mk (st := s__law_within) l19 c19 k19
  have F20 := fun_mk (st := s__law_is_name) l20 c20 k20
  have F21 := fun_mk (st := s__law_name) l21 c21 k21
  have F22 := fun_mk (st := s__law_names) l22 c22 k22
  have F23 := fun_mk (st := s__law_setup) l23 c23 k23
  have F24 := fun_mk (st := s__law_are_rows) l24 c24 k24
  have F25 := fun_mk (st := s__law_is_setup) l25 c25 k25
  have F26 := fun_mk (st := s__law_terms) l26 c26 k26
  have F27 := fun_mk (st := s__law_setup_line) l27 c27 k27
  have F28 := fun_mk (st := s__law_no_text) l28 c28 k28
  have F29 := fun_mk (st := s_law) l29 c29 k29
  refine ⟨PySem.W.fnOf "law" "law" (defArgs s_law) (defBody s_law) (defScope s_law) .none kV29 dc29 pm29 an29 cd29 ct29, fun s v => .of_eq rfl, fun base _ _ => ?_⟩
  have c_is_whole := ok_is_whole (base := base) (P := l.prog) (w := w) F0 (PySem.W.mg_of X G a0) N
  have c_is_within := ok_is_within (base := base) (P := l.prog) (w := w) F1 (PySem.W.mg_of X G a1) N c_is_whole
  have c_is_name := ok_is_name (base := base) (P := l.prog) (w := w) F2 (PySem.W.mg_of X G a2) N
  have c_is_tuple := ok_is_tuple (base := base) (P := l.prog) (w := w) F3 (PySem.W.mg_of X G a3) N
  have c_is_rising := ok_is_rising (base := base) (P := l.prog) (w := w) F4 (PySem.W.mg_of X G a4) N
  have c_is_file := ok_is_file (base := base) (P := l.prog) (w := w) F5 (PySem.W.mg_of X G a5) N c_is_name c_is_tuple c_is_within
  have c_is_client := ok_is_client (base := base) (P := l.prog) (w := w) F6 (PySem.W.mg_of X G a6) N c_is_name c_is_tuple c_is_within
  have c_are_files := ok_are_files (base := base) (P := l.prog) (w := w) F7 (PySem.W.mg_of X G a7) N c_is_file c_is_rising c_is_tuple
  have c_are_clients := ok_are_clients (base := base) (P := l.prog) (w := w) F8 (PySem.W.mg_of X G a8) N c_is_client c_is_rising c_is_tuple
  have c_is_setup := ok_is_setup (base := base) (P := l.prog) (w := w) F9 (PySem.W.mg_of X G a9) N c_are_clients c_are_files c_is_tuple c_is_within
  have c_number_of := ok_number_of (base := base) (P := l.prog) (w := w) F10 (PySem.W.mg_of X G a10) N
  have c_row_of := ok_row_of (base := base) (P := l.prog) (w := w) F11 (PySem.W.mg_of X G a11) N c_number_of
  have c_rows_of := ok_rows_of (base := base) (P := l.prog) (w := w) F12 (PySem.W.mg_of X G a12) N c_row_of
  have c_setup_of := ok_setup_of (base := base) (P := l.prog) (w := w) F13 (PySem.W.mg_of X G a13) N c_is_setup c_number_of c_rows_of
  have c_rows_text := ok_rows_text (base := base) (P := l.prog) (w := w) F14 (PySem.W.mg_of X G a14) N
  have c_setup_text := ok_setup_text (base := base) (P := l.prog) (w := w) F15 (PySem.W.mg_of X G a15) N c_rows_text
  have c_read_setup := ok_read_setup (base := base) (P := l.prog) (w := w) F16 (PySem.W.mg_of X G a16) N c_setup_of
  have c__law_bag := ok__law_bag (base := base) (P := l.prog) (w := w) F17 (PySem.W.mg_of X G a17) N
  have c__law_take := ok__law_take (base := base) (P := l.prog) (w := w) F18 (PySem.W.mg_of X G a18) N
  have c__law_within := ok__law_within (base := base) (P := l.prog) (w := w) F19 (PySem.W.mg_of X G a19) N
  have c__law_is_name := ok__law_is_name (base := base) (P := l.prog) (w := w) F20 (PySem.W.mg_of X G a20) N
  have c__law_name := ok__law_name (base := base) (P := l.prog) (w := w) F21 (PySem.W.mg_of X G a21) N c__law_take
  have c__law_names := ok__law_names (base := base) (P := l.prog) (w := w) F22 (PySem.W.mg_of X G a22) N c__law_name
  have c__law_terms := ok__law_terms (base := base) (P := l.prog) (w := w) F26 (PySem.W.mg_of X G a26) N c__law_take
  have c__law_setup := ok__law_setup (base := base) (P := l.prog) (w := w) F23 (PySem.W.mg_of X G a23) N c__law_names c__law_take c__law_terms
  have c__law_are_rows := ok__law_are_rows (base := base) (P := l.prog) (w := w) F24 (PySem.W.mg_of X G a24) N c__law_is_name
  have c__law_is_setup := ok__law_is_setup (base := base) (P := l.prog) (w := w) F25 (PySem.W.mg_of X G a25) N c__law_are_rows c__law_within
  have c__law_setup_line := ok__law_setup_line (base := base) (P := l.prog) (w := w) F27 (PySem.W.mg_of X G a27) N
  have c__law_no_text := ok__law_no_text (base := base) (P := l.prog) (w := w) F28 (PySem.W.mg_of X G a28) N c_read_setup
  exact ok_law_of law_true (base := base) (P := l.prog) (w := w) F29 N c__law_bag c__law_is_setup c__law_no_text c__law_setup c__law_setup_line c_read_setup c_setup_text
end My
open PySem PySem.W PyProof.Rows
set_option maxRecDepth 100000 in
set_option maxHeartbeats 0 in
theorem PySem.Challenge.cw_pagelend_k56_setups_as_texts_holds : PySem.Challenge.rw_pagelend_k56_setups_as_texts.Holds := by
  w_on; o_law; k_head; (case hw => w_witness2)
  k_fill
  refine L2.walk_of (l := PySem.Challenge.rw_pagelend_k56_setups_as_texts) (n := 63) (k := 9) (x := "script") (CX := fun _ => L2.CX0) (sp := fun w => My.splaw _) rfl (by decide) rfl ⟨rfl, by decide, by decide⟩ (fun w h Y => PySem.W.kIn_of Y) ?F (fun _ _ a ns hl hO hS => ⟨a, ns, rfl, hO, hS, hl, fun _ => rfl⟩) (fun _ _ _ _ _ h => h)
  case F =>
    intro w mg fa h KX G hmg
    refine' My.all_mk KX G hmg ?a0 ?l0 ?c0 ?k0 ?a1 ?l1 ?c1 ?k1 ?a2 ?l2 ?c2 ?k2 ?a3 ?l3 ?c3 ?k3 ?a4 ?l4 ?c4 ?k4 ?a5 ?l5 ?c5 ?k5 ?a6 ?l6 ?c6 ?k6 ?a7 ?l7 ?c7 ?k7 ?a8 ?l8 ?c8 ?k8 ?a9 ?l9 ?c9 ?k9 ?a10 ?l10 ?c10 ?k10 ?a11 ?l11 ?c11 ?k11 ?a12 ?l12 ?c12 ?k12 ?a13 ?l13 ?c13 ?k13 ?a14 ?l14 ?c14 ?k14 ?a15 ?l15 ?c15 ?k15 ?a16 ?l16 ?c16 ?k16 ?a17 ?l17 ?c17 ?k17 ?a18 ?l18 ?c18 ?k18 ?a19 ?l19 ?c19 ?k19 ?a20 ?l20 ?c20 ?k20 ?a21 ?l21 ?c21 ?k21 ?a22 ?l22 ?c22 ?k22 ?a23 ?l23 ?c23 ?k23 ?a24 ?l24 ?c24 ?k24 ?a25 ?l25 ?c25 ?k25 ?a26 ?l26 ?c26 ?k26 ?a27 ?l27 ?c27 ?k27 ?a28 ?l28 ?c28 ?k28 ?a29 ?l29 ?c29 ?k29 ?g_HEADS ?w_HEADS ?g_LETTERS ?g_LONGEST_NAME ?g_SERVER ?g_FIGURES ?g_MOST_FIGURES ?z_ValueError ?z_abs ?z_all ?z_bool ?z_enumerate ?z_int ?z_isinstance ?z_len ?z_min ?z_range ?z_sorted ?z_str ?z_tuple ?z_zip
    (case a0 => k_is); (case l0 => k_is); (case c0 => k_is); (case k0 => k_is); (case a1 => k_is); (case l1 => k_is); (case c1 => k_is); (case k1 => k_is); (case a2 => k_is); (case l2 => k_is); (case c2 => k_is); (case k2 => k_is); (case a3 => k_is); (case l3 => k_is); (case c3 => k_is); (case k3 => k_is); (case a4 => k_is); (case l4 => k_is); (case c4 => k_is); (case k4 => k_is); (case a5 => k_is); (case l5 => k_is); (case c5 => k_is); (case k5 => k_is); (case a6 => k_is); (case l6 => k_is); (case c6 => k_is); (case k6 => k_is); (case a7 => k_is); (case l7 => k_is); (case c7 => k_is); (case k7 => k_is); (case a8 => k_is); (case l8 => k_is); (case c8 => k_is); (case k8 => k_is); (case a9 => k_is); (case l9 => k_is); (case c9 => k_is); (case k9 => k_is); (case a10 => k_is); (case l10 => k_is); (case c10 => k_is); (case k10 => k_is); (case a11 => k_is); (case l11 => k_is); (case c11 => k_is); (case k11 => k_is); (case a12 => k_is); (case l12 => k_is); (case c12 => k_is); (case k12 => k_is); (case a13 => k_is); (case l13 => k_is); (case c13 => k_is); (case k13 => k_is); (case a14 => k_is); (case l14 => k_is); (case c14 => k_is); (case k14 => k_is); (case a15 => k_is); (case l15 => k_is); (case c15 => k_is); (case k15 => k_is); (case a16 => k_is); (case l16 => k_is); (case c16 => k_is); (case k16 => k_is); (case a17 => k_is); (case l17 => k_is); (case c17 => k_is); (case k17 => k_is); (case a18 => k_is); (case l18 => k_is); (case c18 => k_is); (case k18 => k_is); (case a19 => k_is); (case l19 => k_is); (case c19 => k_is); (case k19 => k_is); (case a20 => k_is); (case l20 => k_is); (case c20 => k_is); (case k20 => k_is); (case a21 => k_is); (case l21 => k_is); (case c21 => k_is); (case k21 => k_is); (case a22 => k_is); (case l22 => k_is); (case c22 => k_is); (case k22 => k_is); (case a23 => k_is); (case l23 => k_is); (case c23 => k_is); (case k23 => k_is); (case a24 => k_is); (case l24 => k_is); (case c24 => k_is); (case k24 => k_is); (case a25 => k_is); (case l25 => k_is); (case c25 => k_is); (case k25 => k_is); (case a26 => k_is); (case l26 => k_is); (case c26 => k_is); (case k26 => k_is); (case a27 => k_is); (case l27 => k_is); (case c27 => k_is); (case k27 => k_is); (case a28 => k_is); (case l28 => k_is); (case c28 => k_is); (case k28 => k_is); (case a29 => k_is); (case l29 => k_is); (case c29 => k_is); (case k29 => k_is); (case g_HEADS => k_is); (case w_HEADS => k_is); (case g_LETTERS => k_is); (case g_LONGEST_NAME => k_is); (case g_SERVER => k_is); (case g_FIGURES => k_is); (case g_MOST_FIGURES => k_is); (case z_ValueError => k_is); (case z_abs => k_is); (case z_all => k_is); (case z_bool => k_is); (case z_enumerate => k_is); (case z_int => k_is); (case z_isinstance => k_is); (case z_len => k_is); (case z_min => k_is); (case z_range => k_is); (case z_sorted => k_is); (case z_str => k_is); (case z_tuple => k_is); (case z_zip => k_is)

