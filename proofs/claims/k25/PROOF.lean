import PyProof.Rows.All
import Wide.All
import OpenK.AllK
import Wide.FinOn
import HandS.ForMost
import HandS.IsInst
import HandS.More
import HandS.Replace
import HandS.StrMore
import HandS.Style
import HandS.TupAny
import HandS.Walk
import HandS.Codes
import HandS.ForExc
import HandS.ExcIs
import PyProof.ReprRoads
import PyProof.Rows.CountFlat
import HandS.RaiseMore
import HandS.Conv
import HandS.SetKeys
import PyProof.Rows.SetFrom
import PyProof.ListStr
import HandS.Set
import HandS.SetFor
import HandS.Zip
import PyProof.Rows.SortShellAny
import PyProof.Draws
import HandS.SortRule
import KE.KSortTupG
import HandS.DictComp
import HandS.Dict
import HandS.Words
import HandS.Deep
import HandS.Style
import HandS.FStr
import HandS.Wide
import HandS.TupMul
import KE.KDictDisplayH
import HandS.Codes
import PySem.Challenge.RW_surepatterns_k25_closed_lists_of_cuts
set_option Elab.async false
set_option linter.all false
set_option maxRecDepth 100000

namespace Lw
open PySem PySem.Spec PyProof.Rows L2
/-! ### short words for the readings: rd (what is known), n1 .. n6 (a new object), w1 .. w4 (a store) -/
local macro_rules | `(tactic| walk_at "rd1") => `(tactic| first | refine ⟨_, rfl, ?_⟩ | refine ⟨_, _, rfl, rfl, ?_⟩)
local macro_rules | `(tactic| walk_at "rd") => `(tactic| repeat walk_at "rd1")
set_option hygiene false in
local macro_rules | `(tactic| walk_at "n1") => `(tactic| (intro l1 n1; generalize h1 : upd _ l1 _ = H1; obtain ⟨S1, e1⟩ := nw h1 n1; clear h1))
set_option hygiene false in
local macro_rules | `(tactic| walk_at "n2") => `(tactic| (intro l2 n2; generalize h2 : upd _ l2 _ = H2; obtain ⟨S2, e2⟩ := nw h2 n2; clear h2))
set_option hygiene false in
local macro_rules | `(tactic| walk_at "n3") => `(tactic| (intro l3 n3; generalize h3 : upd _ l3 _ = H3; obtain ⟨S3, e3⟩ := nw h3 n3; clear h3))
set_option hygiene false in
local macro_rules | `(tactic| walk_at "n4") => `(tactic| (intro l4 n4; generalize h4 : upd _ l4 _ = H4; obtain ⟨S4, e4⟩ := nw h4 n4; clear h4))
set_option hygiene false in
local macro_rules | `(tactic| walk_at "n5") => `(tactic| (intro l5 n5; generalize h5 : upd _ l5 _ = H5; obtain ⟨S5, e5⟩ := nw h5 n5; clear h5))
set_option hygiene false in
local macro_rules | `(tactic| walk_at "n6") => `(tactic| (intro l6 n6; generalize h6 : upd _ l6 _ = H6; obtain ⟨S6, e6⟩ := nw h6 n6; clear h6))
set_option hygiene false in
local macro_rules | `(tactic| walk_at "n7") => `(tactic| (intro l7 n7; generalize h7 : upd _ l7 _ = H7; obtain ⟨S7, e7⟩ := nw h7 n7; clear h7))
set_option hygiene false in
local macro_rules | `(tactic| walk_at "n8") => `(tactic| (intro l8 n8; generalize h8 : upd _ l8 _ = H8; obtain ⟨S8, e8⟩ := nw h8 n8; clear h8))
set_option hygiene false in
local macro_rules | `(tactic| walk_at "n9") => `(tactic| (intro l9 n9; generalize h9 : upd _ l9 _ = H9; obtain ⟨S9, e9⟩ := nw h9 n9; clear h9))
set_option hygiene false in
local macro_rules | `(tactic| walk_at "w1") => `(tactic| (generalize h1 : upd _ _ _ = G1; obtain ⟨B1, f1⟩ := pt h1; clear h1))
set_option hygiene false in
local macro_rules | `(tactic| walk_at "w2") => `(tactic| (generalize h2 : upd _ _ _ = G2; obtain ⟨B2, f2⟩ := pt h2; clear h2))
set_option hygiene false in
local macro_rules | `(tactic| walk_at "w3") => `(tactic| (generalize h3 : upd _ _ _ = G3; obtain ⟨B3, f3⟩ := pt h3; clear h3))
set_option hygiene false in
local macro_rules | `(tactic| walk_at "w4") => `(tactic| (generalize h4 : upd _ _ _ = G4; obtain ⟨B4, f4⟩ := pt h4; clear h4))
set_option hygiene false in
local macro_rules | `(tactic| walk_at "w5") => `(tactic| (generalize h5 : upd _ _ _ = G5; obtain ⟨B5, f5⟩ := pt h5; clear h5))
set_option hygiene false in
local macro_rules | `(tactic| walk_at "n10") => `(tactic| (intro l10 n10; generalize h10 : upd _ l10 _ = H10; obtain ⟨S10, e10⟩ := nw h10 n10; clear h10))
set_option hygiene false in
local macro_rules | `(tactic| walk_at "n11") => `(tactic| (intro l11 n11; generalize h11 : upd _ l11 _ = H11; obtain ⟨S11, e11⟩ := nw h11 n11; clear h11))
set_option hygiene false in
local macro_rules | `(tactic| walk_at "n12") => `(tactic| (intro l12 n12; generalize h12 : upd _ l12 _ = H12; obtain ⟨S12, e12⟩ := nw h12 n12; clear h12))
set_option hygiene false in
local macro_rules | `(tactic| walk_at "n13") => `(tactic| (intro l13 n13; generalize h13 : upd _ l13 _ = H13; obtain ⟨S13, e13⟩ := nw h13 n13; clear h13))
set_option hygiene false in
local macro_rules | `(tactic| walk_at "n14") => `(tactic| (intro l14 n14; generalize h14 : upd _ l14 _ = H14; obtain ⟨S14, e14⟩ := nw h14 n14; clear h14))
set_option hygiene false in
local macro_rules | `(tactic| walk_at "n15") => `(tactic| (intro l15 n15; generalize h15 : upd _ l15 _ = H15; obtain ⟨S15, e15⟩ := nw h15 n15; clear h15))
set_option hygiene false in
local macro_rules | `(tactic| walk_at "n16") => `(tactic| (intro l16 n16; generalize h16 : upd _ l16 _ = H16; obtain ⟨S16, e16⟩ := nw h16 n16; clear h16))
set_option hygiene false in
local macro_rules | `(tactic| walk_at "n17") => `(tactic| (intro l17 n17; generalize h17 : upd _ l17 _ = H17; obtain ⟨S17, e17⟩ := nw h17 n17; clear h17))
set_option hygiene false in
local macro_rules | `(tactic| walk_at "n18") => `(tactic| (intro l18 n18; generalize h18 : upd _ l18 _ = H18; obtain ⟨S18, e18⟩ := nw h18 n18; clear h18))
set_option hygiene false in
local macro_rules | `(tactic| walk_at "n19") => `(tactic| (intro l19 n19; generalize h19 : upd _ l19 _ = H19; obtain ⟨S19, e19⟩ := nw h19 n19; clear h19))
set_option hygiene false in
local macro_rules | `(tactic| walk_at "n20") => `(tactic| (intro l20 n20; generalize h20 : upd _ l20 _ = H20; obtain ⟨S20, e20⟩ := nw h20 n20; clear h20))
set_option hygiene false in
local macro_rules | `(tactic| walk_at "n21") => `(tactic| (intro l21 n21; generalize h21 : upd _ l21 _ = H21; obtain ⟨S21, e21⟩ := nw h21 n21; clear h21))
set_option hygiene false in
local macro_rules | `(tactic| walk_at "n22") => `(tactic| (intro l22 n22; generalize h22 : upd _ l22 _ = H22; obtain ⟨S22, e22⟩ := nw h22 n22; clear h22))
set_option hygiene false in
local macro_rules | `(tactic| walk_at "n23") => `(tactic| (intro l23 n23; generalize h23 : upd _ l23 _ = H23; obtain ⟨S23, e23⟩ := nw h23 n23; clear h23))
set_option hygiene false in
local macro_rules | `(tactic| walk_at "n24") => `(tactic| (intro l24 n24; generalize h24 : upd _ l24 _ = H24; obtain ⟨S24, e24⟩ := nw h24 n24; clear h24))
set_option hygiene false in
local macro_rules | `(tactic| walk_at "n25") => `(tactic| (intro l25 n25; generalize h25 : upd _ l25 _ = H25; obtain ⟨S25, e25⟩ := nw h25 n25; clear h25))
set_option hygiene false in
local macro_rules | `(tactic| walk_at "n26") => `(tactic| (intro l26 n26; generalize h26 : upd _ l26 _ = H26; obtain ⟨S26, e26⟩ := nw h26 n26; clear h26))
set_option hygiene false in
local macro_rules | `(tactic| walk_at "n27") => `(tactic| (intro l27 n27; generalize h27 : upd _ l27 _ = H27; obtain ⟨S27, e27⟩ := nw h27 n27; clear h27))
set_option hygiene false in
local macro_rules | `(tactic| walk_at "n28") => `(tactic| (intro l28 n28; generalize h28 : upd _ l28 _ = H28; obtain ⟨S28, e28⟩ := nw h28 n28; clear h28))
set_option hygiene false in
local macro_rules | `(tactic| walk_at "n29") => `(tactic| (intro l29 n29; generalize h29 : upd _ l29 _ = H29; obtain ⟨S29, e29⟩ := nw h29 n29; clear h29))
set_option hygiene false in
local macro_rules | `(tactic| walk_at "n30") => `(tactic| (intro l30 n30; generalize h30 : upd _ l30 _ = H30; obtain ⟨S30, e30⟩ := nw h30 n30; clear h30))

/-! ### heaps -/
/-- all but what stands at p is as it was -/
def But (p : Addr) (H H' : Hp) : Prop := ∀ b o, b ≠ p → H b = some o → H' b = some o
theorem But.refl (p : Addr) (H : Hp) : But p H H := fun _ _ _ h => h
theorem But.trans {p : Addr} {H H1 H2 : Hp} (a : But p H H1) (b : But p H1 H2) : But p H H2 := fun c o n h => b c o n (a c o n h)
theorem But.of_same {p : Addr} {H H1 : Hp} (a : Same H H1) : But p H H1 := fun c o _ h => a c o h
theorem But.upd_at {p : Addr} {H H1 : Hp} {o : HO} (a : But p H H1) : But p H (upd H1 p o) := fun c u n h => by
  rw [upd_ne n]; exact a c u n h
theorem But.new {p q : Addr} {H H1 : Hp} {o : HO} (a : But p H H1) (hq : H1 q = none) : But p H (upd H1 q o) := fun c u n h => by
  rw [upd_ne (ne_of_none (a c u n h) hq)]; exact a c u n h
/-- a change at an address that was free at the start -/
theorem But.own {p q : Addr} {H H1 : Hp} {o : HO} (a : But p H H1) (hq : H q = none) : But p H (upd H1 q o) := fun c u n h => by
  rw [upd_ne (ne_of_none h hq)]; exact a c u n h
theorem But.free {p q : Addr} {H H1 : Hp} (a : But p H H1) (h : H1 q = none) (n : q ≠ p) : H q = none := by
  cases e : H q with
  | none => rfl
  | some o => rw [a q o n e] at h; cases h
theorem _root_.L2.Same.new {H : Hp} {q : Addr} {o : HO} (hq : H q = none) : Same H (upd H q o) := fun c u h => by
  rw [upd_ne (ne_of_none h hq)]; exact h
theorem _root_.L2.Same.own {H H1 : Hp} {q : Addr} {o : HO} (s : Same H H1) (hq : H q = none) : Same H (upd H1 q o) := fun c u h => by
  rw [upd_ne (ne_of_none h hq)]; exact s c u h
theorem But.seq {K : PySem.W.Frag} {p a : Addr} {H H' : Hp} {xs : List V} (e : But p H H') (n : a ≠ p) (h : SqL K H a xs) : SqL K H' a xs := by
  rcases h with (h | ⟨o, h⟩) | h
  · exact .inl (.inl (e _ _ n h))
  · exact .inl (.inr ⟨o, e _ _ n h⟩)
  · exact .inr h
theorem But.tup {K : PySem.W.Frag} {p a : Addr} {H H' : Hp} {xs : List V} (e : But p H H') (n : a ≠ p) (h : SqT K H a xs) : SqT K H' a xs := by
  rcases h with (h | ⟨o, h⟩) | h
  · exact .inl (.inl (e _ _ n h))
  · exact .inl (.inr ⟨o, e _ _ n h⟩)
  · exact .inr h
theorem sl_of {n : Nat} (h : n ≤ 100000) : n ≤ sizeLine := Nat.le_trans h (by decide)
theorem slt_of {n : Nat} (h : n < 100000) : n < sizeLine := Nat.lt_of_lt_of_le h (by decide)

/-! ### the pen: a list of a list of ints, the number of draws, what is left of the last one -/
def PenAt (H : Hp) (p c : Addr) (ns : List Int) (i z : Int) : Prop := H p = some (.lst [.ref c, .int i, .int z]) ∧ H c = some (.lst (ns.map V.int)) ∧ ns.length ≤ 12
def Pen (H : Hp) (p c : Addr) (n : Nat) : Prop := ∃ ns i z, PenAt H p c ns i z ∧ 0 ≤ i ∧ i ≤ (n : Int)
theorem PenAt.ne {H : Hp} {p c : Addr} {ns : List Int} {i z : Int} (h : PenAt H p c ns i z) : c ≠ p := by
  refine ne_of h.2.1 h.1 fun e => ?_
  injection e with e
  cases ns with
  | nil => cases e
  | cons x r => rw [List.map_cons] at e; injection e with e _; cases e
theorem Pen.mono {H : Hp} {p c : Addr} {n m : Nat} (h : Pen H p c n) (l : n ≤ m) : Pen H p c m := by
  obtain ⟨ns, i, z, a, b, d⟩ := h
  exact ⟨ns, i, z, a, b, by omega⟩
theorem Pen.same {H H' : Hp} {p c : Addr} {n : Nat} (h : Pen H p c n) (s : Same H H') : Pen H' p c n := by
  obtain ⟨ns, i, z, ⟨a1, a2, a3⟩, b, d⟩ := h
  exact ⟨ns, i, z, ⟨s _ _ a1, s _ _ a2, a3⟩, b, d⟩
theorem Pen.new {H : Hp} {p c q : Addr} {n : Nat} {o : HO} (h : Pen H p c n) (hq : H q = none) : Pen (upd H q o) p c n := h.same (Same.new hq)
theorem Pen.ne_free {H : Hp} {p c q : Addr} {n : Nat} (h : Pen H p c n) (hq : H q = none) : q ≠ p ∧ q ≠ c := by
  obtain ⟨ns, i, z, ⟨a1, a2, _⟩, _⟩ := h
  exact ⟨(ne_of_none a1 hq).symm, (ne_of_none a2 hq).symm⟩
/-- a store to what was made behind the pen -/
theorem Pen.list {H : Hp} {p c q : Addr} {n : Nat} {o : HO} (h : Pen H p c n) (hq : q ≠ p ∧ q ≠ c) : Pen (upd H q o) p c n := by
  obtain ⟨ns, i, z, ⟨a1, a2, a3⟩, b, d⟩ := h
  exact ⟨ns, i, z, ⟨by rw [upd_ne hq.1.symm]; exact a1, by rw [upd_ne hq.2.symm]; exact a2, a3⟩, b, d⟩
theorem mod13 (a : Int) : 0 ≤ a % 13 ∧ a % 13 < 13 := ⟨Int.emod_nonneg _ (by decide), Int.emod_lt_of_pos _ (by decide)⟩
theorem nw {H H1 : Hp} {p : Addr} {o : HO} (h : upd H p o = H1) (n : H p = none) : Same H H1 ∧ H1 p = some o := h ▸ ⟨Same.new n, upd_same⟩
theorem pt {H H1 : Hp} {p : Addr} {o : HO} (h : upd H p o = H1) : But p H H1 ∧ H1 p = some o := h ▸ ⟨(But.refl p H).upd_at, upd_same⟩

/-! ### the law's mixing: bounds alone -/
def primesL : List Int := [2147483629, 2147483587, 2147483579, 2147483563, 2147483549, 2147483543, 2147483497, 2147483489, 2147483477, 2147483423, 2147483399, 2147483353, 2147483323]
theorem primes_fin : ∀ j : Fin 13, 2147483323 ≤ primesL[j] ∧ primesL[j] ≤ 2147483629 := by decide
theorem primes_at (a : Int) : ∃ q : Int, atI (primesL.map V.int) (a % 13) = some (.int q) ∧ 2147483323 ≤ q ∧ q ≤ 2147483629 := by
  obtain ⟨h0, h1⟩ := mod13 a
  obtain ⟨j, hj⟩ := Int.eq_ofNat_of_zero_le h0
  have hl : j < 13 := by omega
  refine ⟨primesL[(⟨j, hl⟩ : Fin 13)], ?_, primes_fin ⟨j, hl⟩⟩
  rw [hj]
  refine atI_nat ?_
  rw [List.getElem?_map, List.getElem?_eq_getElem (show j < primesL.length from hl)]
  rfl
theorem mul_in {x y : Int} {m n : Int} (h0 : 0 ≤ x) (h1 : x ≤ m) (h2 : 0 ≤ y) (h3 : y ≤ n) : 0 ≤ x * y ∧ x * y ≤ m * n :=
  ⟨Int.mul_nonneg h0 h2, Int.mul_le_mul h1 h3 h2 (by omega)⟩
theorem mixed_lt (c a : Int) (h0 : 0 ≤ a) (h1 : a ≤ 1048576) : (c % 1000000007 * (2 * a + 69069) + a * 40503 + 977).natAbs < 2 ^ 64 := by
  have := mul_in (x := c % 1000000007) (y := 2 * a + 69069) (m := 1000000006) (n := 4000000) (by omega) (by omega) (by omega) (by omega)
  omega
theorem two_lt (c a o : Int) (h0 : 0 ≤ a) (h1 : a ≤ 1048576) (h2 : 0 ≤ o) (h3 : o ≤ 2147483629) : (o * (a + 3) + c % 65537 + 5).natAbs < 2 ^ 64 := by
  have := mul_in (x := o) (y := a + 3) (m := 2147483629) (n := 4000000) (by omega) (by omega) (by omega) (by omega)
  omega
theorem three_lt (a o t : Int) (h0 : 0 ≤ a) (h1 : a ≤ 1048576) (h2 : 0 ≤ t) (h3 : t ≤ 2147483629) : (t + o % 1009 + a).natAbs < 2 ^ 64 := by omega
theorem rest_in {x q : Int} (h1 : 2147483323 ≤ q) (h2 : q ≤ 2147483629) : 0 ≤ x % q ∧ x % q ≤ 2147483629 :=
  ⟨Int.emod_nonneg _ (by omega), by have := Int.emod_lt_of_pos x (show 0 < q by omega); omega⟩
/-! ### slices -/
def cutL {α : Type} (xs : List α) (lo hi : Option Int) : List α := (xs.drop (HT.sIx xs.length 0 lo)).take (HT.sIx xs.length xs.length hi - HT.sIx xs.length 0 lo)
theorem cutV_L (xs : List V) (lo hi : Option Int) : cutV xs lo hi = cutL xs lo hi := rfl
theorem cutL_map {α β : Type} (f : α → β) (xs : List α) (lo hi : Option Int) : cutL (xs.map f) lo hi = (cutL xs lo hi).map f := by
  unfold cutL
  rw [List.length_map, List.map_take, List.map_drop]
theorem cutL_pre {α : Type} (xs : List α) (k : Nat) : cutL xs none (some (k : Int)) = xs.take k := by
  unfold cutL
  rw [HT.sIx_none, HT.sIx_nat, List.drop_zero, Nat.sub_zero]
  by_cases h : k ≤ xs.length
  · rw [Nat.min_eq_left h]
  · rw [Nat.min_eq_right (by omega), List.take_length, List.take_of_length_le (by omega)]
theorem cutL_suf {α : Type} (xs : List α) (k : Nat) : cutL xs (some (k : Int)) none = xs.drop k := by
  unfold cutL
  rw [HT.sIx_none, HT.sIx_nat]
  by_cases h : k ≤ xs.length
  · rw [Nat.min_eq_left h, List.take_of_length_le (by rw [List.length_drop]; omega)]
  · rw [Nat.min_eq_right (by omega), List.drop_length, List.take_nil, List.drop_of_length_le (by omega)]
theorem cutL_mid {α : Type} (xs : List α) (j k : Nat) : cutL xs (some (j : Int)) (some (k : Int)) = (xs.take k).drop j := by
  unfold cutL
  rw [HT.sIx_nat, HT.sIx_nat]
  by_cases h : k ≤ xs.length
  · rw [Nat.min_eq_left h]
    by_cases h2 : j ≤ xs.length
    · rw [Nat.min_eq_left h2, List.drop_take]
    · rw [Nat.min_eq_right (by omega), List.drop_length, List.take_nil, List.drop_of_length_le (by rw [List.length_take]; omega)]
  · rw [Nat.min_eq_right (show xs.length ≤ k by omega), List.take_of_length_le (show xs.length ≤ k by omega)]
    by_cases h2 : j ≤ xs.length
    · rw [Nat.min_eq_left h2, List.take_of_length_le (by rw [List.length_drop]; omega)]
    · rw [Nat.min_eq_right (by omega), List.drop_length, List.take_nil, List.drop_of_length_le (by omega)]
theorem ix12 {n : Nat} (i : Nat) (h : 12 ≤ n) : ixN n ((i : Int) % 12) = some (i % 12) := by
  unfold ixN
  rw [if_pos (by omega), if_pos (by omega)]
  congr 1
def vN (k : Nat) : V := .int (k : Int)
theorem walk_rangeN {n : Nat} : Walk (Itr 0 n) n (fun _ => True) (YFn vN) := walk_range.mono (fun _ h => h) fun i H x H' _ _ y => ⟨y.1, by
  rw [y.2]
  show V.int (0 + (i : Int)) = V.int (i : Int)
  rw [Int.zero_add]⟩
/-- a comprehension's turn without a test -/
theorem yesT {σ : L2.St} {H : Hp} {A B : Hp → Prop} (h : A H) : tYes σ H fun b H3 => if b = true then A H3 else B H3 := by
  show (if true = true then A H else B H)
  rw [if_pos rfl]
  exact h
/-- a comprehension without a test whose turns change nothing -/
theorem lc_map {α : Type} {J : It} {G : Hp → Prop} {Y : Nat → Hp → V → Hp → Prop} (xs : List α) (f : α → V) (w : Walk J xs.length G Y) {g : TG} {te : TE} {vs : List Nat} {σ : L2.St} {H1 : Hp} {D : Addr} {Qd : Hp → Prop}
    (hD : H1 D = none) (hn : xs.length ≤ 100000) (hG : ∀ H', Same H1 H' → G H')
    (hs : ∀ i a x H' H'' (R : VK), xs[i]? = some a → Same H1 H' → Y i H' x H'' → (∀ H4, Same H' H4 → R (f a) H4) → g x (wipe σ vs) H'' fun σ2 H2 => wipe σ2 vs = wipe σ vs ∧ te σ2 H2 R)
    (hd : ∀ H', Same H1 H' → H' D = some (.lst (xs.map f)) → Qd H') :
    ∃ W : Nat → Nat → Hp → Prop, (∃ m, W 0 m (upd H1 D (.lst []))) ∧ ∀ i m H, W i m H →
      (J.stop i H ∧ Qd H) ∨ (J.go i H ∧ ∃ Nx : Hp → Prop, (∀ H', Nx H' → ∃ m', m' < m ∧ W (i + 1) m' H') ∧ ∀ x H', J.yld i H x H' → g x (wipe σ vs) H' fun σ2 H2 => wipe σ2 vs = wipe σ vs ∧ tYes σ2 H2 fun b H3 =>
        if b = true then te σ2 H3 fun y H4 => ∃ acc, H4 D = some (.lst acc) ∧ acc.length < sizeLine ∧ Nx (upd H4 D (.lst (acc ++ [y]))) else Nx H3) := by
  refine lc_it w (fun i H' => Same H1 H' ∧ H' D = some (.lst ((xs.take i).map f))) ⟨Same.new hD, upd_same⟩ (fun i H _ h => hG H h.1) (fun i x H' H'' hi h y => ?_) (fun H h => ?_)
  · obtain ⟨a, ha⟩ : ∃ a, xs[i]? = some a := ⟨_, List.getElem?_eq_getElem hi⟩
    have q := hs i a x H' H'' (fun y H4 => ∃ acc, H4 D = some (.lst acc) ∧ acc.length < sizeLine ∧ Same H1 (upd H4 D (.lst (acc ++ [y]))) ∧ (upd H4 D (.lst (acc ++ [y]))) D = some (.lst ((xs.take (i + 1)).map f))) ha h.1 y (fun H4 s => ?_)
    · exact q
    · refine ⟨_, s _ _ h.2, ?_, (h.1.trans s).own hD, ?_⟩
      · rw [List.length_map, List.length_take, sizeLine_eq]
        omega
      · rw [upd_same, List.take_add_one, ha, Option.toList_some, List.map_append]
        rfl
  · rw [List.take_length] at h
    exact hd H h.1 h.2
/-! ### rules with the written part named (within comprehensions) -/
section
variable {X : Cx} {K : PySem.W.Frag}
theorem ix_listK (h : X.K = K := by rfl) : IxR X (rIxL K) := h ▸ ix_list
theorem ix_tupK (h : X.K = K := by rfl) : IxR X (rIxT K) := h ▸ ix_tup
theorem sl_listK (h : X.K = K := by rfl) : SlR X (rSlL K) := h ▸ sl_list
theorem sl_tupAK (h : X.K = K := by rfl) : SlR X (rSlA K) := h ▸ sl_tupA
theorem call_lenK (h : X.K = K := by rfl) : CallR X (.builtin "len") (fun xs H Q => ∃ p ys, xs = [.ref p] ∧ (SqL K H p ys ∨ SqT K H p ys) ∧ Q (.int ys.length) H) := h ▸ call_len_seq
theorem call_listK (h : X.K = K := by rfl) : CallR X (.type "list") (fun xs H Q => ∃ p ys, xs = [.ref p] ∧ (SqL K H p ys ∨ SqT K H p ys) ∧ ∀ l, H l = none → Q (.ref l) (upd H l (.lst ys))) := h ▸ call_list_of
theorem op_inK (h : X.K = K := by rfl) : OpR X (compareOp .In) (rIn K false) := h ▸ op_in_seq
theorem op_notInK (h : X.K = K := by rfl) : OpR X (compareOp .NotIn) (rIn K true) := h ▸ op_notIn_seq
end

/-! ### texts as lists of code points -/
open SX (S)
theorem len_S (l : List Nat) : (S l).length = l.length := SX.S_len l
theorem ip_addS {X : Cx} : PIp X .Add (fun x y H Q => ∃ i j, x = .str i ∧ y = .str j ∧ i.length + j.length ≤ sizeLine ∧ Q (.str (i ++ j)) H) := iop_add_str
/-- text * number -/
def rRepS : R2 := fun x y H Q => ∃ z n, x = .str z ∧ y = .int n ∧ PySem.MulOk z n ∧ Q (.str (Txt.mul z n)) H
theorem op_repS {X : Cx} : OpR X (binaryOp .Mult) rRepS := by
  intro pins s σ H x y v u Q I rx ry h
  obtain ⟨z, n, rfl, rfl, ok, q⟩ := h
  obtain ⟨t, rfl⟩ := rx
  obtain ⟨t', rfl⟩ := ry
  exact PySem.SB.mul ok fun t' k => ⟨.str (Txt.mul z n), H, I.tok k, ⟨t', rfl⟩, q⟩
theorem mul_app (l : List Nat) : ∀ (n : Nat) (acc : List Nat), ((List.replicate n l.toArray).foldl (· ++ ·) acc.toArray) = (acc ++ (List.replicate n l).flatten).toArray
  | 0, acc => by simp
  | n + 1, acc => by
    rw [List.replicate_succ, List.foldl_cons, List.append_toArray, mul_app l n (acc ++ l), List.replicate_succ, List.flatten_cons, List.append_assoc]
theorem mul_S (l : List Nat) (n : Nat) : Txt.mul (S l) (n : Int) = S (List.replicate n l).flatten := by
  unfold Txt.mul
  by_cases h0 : (n : Int) < 1
  · have e : n = 0 := by omega
    subst e
    rw [if_pos h0]
    rfl
  · rw [if_neg h0]
    by_cases h1 : ((n : Int) == 1 || (S l).length == 0) = true
    · rw [if_pos h1]
      rcases Bool.or_eq_true_iff.mp h1 with h | h
      · have e : (n : Int) = 1 := eq_of_beq h
        have e2 : n = 1 := by omega
        subst e2
        simp
      · have e : (S l).length = 0 := eq_of_beq h
        rw [len_S] at e
        have e2 : l = [] := List.length_eq_zero_iff.mp e
        subst e2
        congr 1
        have : ∀ m : Nat, (List.replicate m ([] : List Nat)).flatten = [] := fun m => by
          induction m with
          | zero => rfl
          | succ m ih => rw [List.replicate_succ, List.flatten_cons, ih] <;> rfl
        rw [this]
    · rw [if_neg h1, Int.toNat_natCast]
      congr 1
      exact mul_app l n []
theorem mulOk_S {l : List Nat} {n : Nat} (h : l.length * n ≤ 100000) (hn : n ≤ 100000) : PySem.MulOk (S l) (n : Int) := by
  refine ⟨?_, fun h1 h2 => ?_, fun h1 h2 => ?_⟩
  · rw [decide_eq_false (by omega), decide_eq_false (by omega)] <;> rfl
  · rw [len_S]
    have h3 : ((l.length : Nat) : Int) * n ≤ 100000 := by
      rw [← Int.natCast_mul]
      omega
    have h4 : (1 : Int) ≤ n := by omega
    have h5 : (l.length : Int) ≤ (2 ^ 63 - 1) / (n : Int) := by
      refine (Int.le_ediv_iff_mul_le (by omega)).mpr ?_
      omega
    omega
  · rw [len_S, Int.toNat_natCast]
    refine decide_eq_false ?_
    rw [sizeLine_eq]
    omega
/-- text.index(sign) that is there -/
def rIdx : V → List V → Hp → VK → Prop := fun x xs H Q => ∃ (l : List Nat) (c : Nat), x = .str (S l) ∧ xs = [.str (S [c])] ∧ c ∈ l ∧ Q (.int (l.idxOf c : Nat)) H
theorem occ_idx {l : List Nat} {c : Nat} (h : c ∈ l) : ∃ r, Builtin.Str.occurrences (S l) (S [c]) 0 (S l).length 1 = l.idxOf c :: r := by
  have hi : l.idxOf c < l.length := List.idxOf_lt_length_iff.mpr h
  have hg : l[l.idxOf c]? = some c := by
    rw [List.getElem?_eq_getElem hi, List.getElem_idxOf hi]
  rcases StrLaws.occ_head (S l) (S [c]) 1 (Nat.le_refl 1) with ⟨_, hn⟩ | ⟨i, r, e, ha, hn⟩
  · exact absurd ((StrLaws.subAt_one (S l) c (l.idxOf c)).mpr hg) (hn _)
  · refine ⟨r, ?_⟩
    rw [e]
    congr 1
    have h1 : l[i]? = some c := (StrLaws.subAt_one (S l) c i).mp ha
    by_cases h2 : l.idxOf c < i
    · exact absurd ((StrLaws.subAt_one (S l) c (l.idxOf c)).mpr hg) (hn _ h2)
    · by_cases h3 : i < l.idxOf c
      · have := List.not_of_lt_findIdx (p := (· == c)) (xs := l) (i := i) h3
        obtain ⟨hl, e1⟩ := List.getElem?_eq_some_iff.mp h1
        rw [e1] at this
        simp at this
      · omega
theorem mt_idx {X : Cx} : MtR X "str.index" rIdx := by
  intro pins s σ H x xs v us Q I rx rs h
  obtain ⟨l, c, rfl, rfl, hc, q⟩ := h
  obtain ⟨r, e⟩ := occ_idx hc
  exact mt_sindex pins s σ H _ _ v us Q I rx rs ⟨_, _, _, r, rfl, rfl, e, q⟩
theorem pe_idx {X : Cx} {o e : Expr} {to te : TE} {apos pos : Pos} (ho : PE X o to) (he : PE X e te)
    (hs : starEach [e] X.env = [(false, eval e X.env)] := by rfl) (hbase : attributeBase o "index" X.env (eval o X.env) = eval o X.env := by rfl) (hline : (apos.endLine == pos.line) = true := by rfl) :
    PE X (.Call (.Attribute o "index" apos) [e] [] pos) (tM1 rIdx to te) := pe_m1 PySem.F.slot_str_index PySem.F.type_str_index mt_idx ho he hs hbase hline
theorem walk_S {l : List Nat} : Walk (Its (S l)) l.length (fun _ => True) (fun i H v H' => H' = H ∧ ∃ c, l[i]? = some c ∧ v = .str (S [c])) :=
  (walk_str (z := S l)).mono (fun _ h => h) fun i H x H' _ _ y => by
    obtain ⟨e, c, h1, h2⟩ := y
    refine ⟨e, c, ?_, h2⟩
    rw [← h1]
    simp
theorem cutS_S (l : List Nat) (lo hi : Option Int) : cutS (S l) lo hi = S (cutL l lo hi) := by
  unfold cutS cutL
  rw [len_S]
theorem join0 (ys : List (List Nat)) : Txt.join (S []) (ys.map S) = S ys.flatten := by
  rw [SX.join_S]
  congr 1
  have : ∀ ys : List (List Nat), TL.joinL [] ys = ys.flatten := fun ys => by
    induction ys with
    | nil => rfl
    | cons x r ih =>
      cases r with
      | nil => simp [TL.joinL]
      | cons y r => show x ++ ([] ++ TL.joinL [] (y :: r)) = _; rw [ih]; rfl
  rw [this]
theorem flat1 {α : Type} (f : α → Nat) (l : List α) : (l.map fun x => [f x]).flatten = l.map f := by
  induction l with
  | nil => rfl
  | cons x r ih => rw [List.map_cons, List.flatten_cons, ih]; rfl
theorem snocInd {α : Type} {P : List α → Prop} (h0 : P []) (hs : ∀ l a, P l → P (l ++ [a])) (l : List α) : P l := by
  have : ∀ r : List α, P r.reverse := fun r => by
    induction r with
    | nil => exact h0
    | cons x r ih => rw [List.reverse_cons]; exact hs _ _ ih
  have h := this l.reverse
  rw [List.reverse_reverse] at h
  exact h
/-! ### the different signs of a text -/
def dist (l : List Nat) : List Nat := l.foldl (fun acc c => if c ∈ acc then acc else acc ++ [c]) []
theorem dist_snoc (l : List Nat) (c : Nat) : dist (l ++ [c]) = if c ∈ dist l then dist l else dist l ++ [c] := by
  unfold dist
  rw [List.foldl_append]
  rfl
theorem dist_len (l : List Nat) : (dist l).length ≤ l.length := by
  refine snocInd (P := fun l => (dist l).length ≤ l.length) (Nat.le_refl _) (fun l c ih => ?_) l
  rw [dist_snoc, List.length_append]
  by_cases h : c ∈ dist l
  · rw [if_pos h]; exact Nat.le_succ_of_le ih
  · rw [if_neg h, List.length_append]; exact Nat.add_le_add_right ih _
theorem mem_dist {l : List Nat} {c : Nat} : c ∈ dist l ↔ c ∈ l := by
  refine snocInd (P := fun l => c ∈ dist l ↔ c ∈ l) Iff.rfl (fun l d ih => ?_) l
  rw [dist_snoc, List.mem_append, List.mem_singleton]
  by_cases h : d ∈ dist l
  · rw [if_pos h, ih]
    refine ⟨.inl, fun z => z.elim id fun e => ?_⟩
    subst e; exact ih.mp h
  · rw [if_neg h, List.mem_append, List.mem_singleton, ih]
theorem dist_nodup (l : List Nat) : (dist l).Nodup := by
  refine snocInd (P := fun l => (dist l).Nodup) List.nodup_nil (fun l d ih => ?_) l
  rw [dist_snoc]
  by_cases h : d ∈ dist l
  · rw [if_pos h]; exact ih
  · rw [if_neg h]
    exact List.nodup_append.mpr ⟨ih, List.nodup_cons.mpr ⟨List.not_mem_nil, List.nodup_nil⟩, fun a ha b hb => by
      rw [List.mem_singleton] at hb; subst hb; intro e; subst e; exact h ha⟩
theorem sum_le {ls : List Nat} {b : Nat} (h : ∀ x ∈ ls, x ≤ b) : ls.sum ≤ ls.length * b := by
  induction ls with
  | nil => simp
  | cons x r ih =>
    rw [List.sum_cons, List.length_cons, Nat.succ_mul]
    have h1 := h x List.mem_cons_self
    have h2 := ih fun y hy => h y (List.mem_cons_of_mem _ hy)
    omega
theorem join_ok {ys : List (List Nat)} (b : Nat) (hb : ∀ y ∈ ys, y.length ≤ b) (h : ys.length * b ≤ 100000) : ((ys.map S).map (·.length)).sum + (ys.map S).length * (S []).length ≤ 16777216 := by
  rw [SX.lens]
  have h1 : (ys.map (·.length)).sum ≤ (ys.map (·.length)).length * b := sum_le fun x hx => by
    obtain ⟨y, hy, rfl⟩ := List.mem_map.mp hx
    exact hb y hy
  rw [List.length_map] at h1
  show _ + _ * 0 ≤ _
  omega
theorem join_ok1 {α : Type} {l : List α} (f : α → Nat) (h : l.length ≤ 100000) : (((l.map fun c => [f c]).map S).map (·.length)).sum + ((l.map fun c => [f c]).map S).length * (S []).length ≤ 16777216 :=
  join_ok 1 (fun y hy => by obtain ⟨x, _, rfl⟩ := List.mem_map.mp hy; exact Nat.le_refl 1) (by rw [List.length_map]; omega)
theorem map_sg {α : Type} (f : α → Nat) (l : List α) : l.map (fun c => V.str (S [f c])) = ((l.map fun c => [f c]).map S).map V.str := by
  rw [List.map_map, List.map_map]
  rfl
theorem nodup_len {α : Type} [DecidableEq α] : ∀ {l m : List α}, l.Nodup → (∀ x ∈ l, x ∈ m) → l.length ≤ m.length
  | [], _, _, _ => Nat.zero_le _
  | x :: r, m, h, hs => by
    obtain ⟨h1, h2⟩ := List.nodup_cons.mp h
    have hx : x ∈ m := hs x List.mem_cons_self
    have := nodup_len (m := m.erase x) h2 fun y hy => (List.mem_erase_of_ne (fun e => h1 (by rw [← e]; exact hy))).mpr (hs y (List.mem_cons_of_mem _ hy))
    rw [List.length_erase_of_mem hx] at this
    have hp : 0 < m.length := List.length_pos_of_mem hx
    rw [List.length_cons]
    omega
theorem dist_few {l m : List Nat} (h : ∀ c ∈ l, c ∈ m) : (dist l).length ≤ m.length := nodup_len (dist_nodup l) fun c hc => h c (mem_dist.mp hc)

/-! ### patterns -/
def capL : List Nat := [65, 66, 67, 68, 69, 70, 71, 72, 73, 74, 75, 76, 77, 78, 79, 80, 81, 82, 83, 84, 85, 86, 87, 88, 89, 90]
theorem capS : (("ABCDEFGHIJKLMNOPQRSTUVWXYZ" : String) : Str) = S capL := by decide +kernel
theorem cap_nodup : capL.Nodup := by decide
def allIn (l m : List Nat) : Bool := l.all fun c => decide (c ∈ m)
theorem allIn_iff {l m : List Nat} : allIn l m = true ↔ ∀ c ∈ l, c ∈ m := by
  unfold allIn
  rw [List.all_eq_true]
  exact ⟨fun h c hc => of_decide_eq_true (h c hc), fun h c hc => decide_eq_true (h c hc)⟩
def patB (l : List Nat) : Bool := (decide (1 ≤ l.length) && decide (l.length ≤ 20)) && (allIn l capL && decide ((dist l).length ≤ 7))
structure Pat (l : List Nat) : Prop where
  lo : 1 ≤ l.length
  hi : l.length ≤ 20
  cap : ∀ c ∈ l, c ∈ capL
  few : (dist l).length ≤ 7
theorem pat_iff {l : List Nat} : patB l = true ↔ Pat l := by
  unfold patB
  rw [Bool.and_eq_true, Bool.and_eq_true, Bool.and_eq_true, decide_eq_true_eq, decide_eq_true_eq, decide_eq_true_eq, allIn_iff]
  exact ⟨fun h => ⟨h.1.1, h.1.2, h.2.1, h.2.2⟩, fun h => ⟨⟨h.lo, h.hi⟩, h.cap, h.few⟩⟩
/-- the normal form -/
def nf (l : List Nat) : List Nat := l.map fun c => capL[(dist l).idxOf c]?.getD 0
theorem idx_dist_lt {l : List Nat} {c : Nat} (h : c ∈ l) : (dist l).idxOf c < (dist l).length := List.idxOf_lt_length_iff.mpr (mem_dist.mpr h)

/-! ### defs under which a value is shown: nothing is being shown around them -/
structure FnG (P : Program) (w : World) (K : PySem.W.Frag) (mg : Str → Option Value) (base : Heap) (CX : CXT) (k : Nat) (f : Addr) (fd : FuncData) (ps : List Str) (sp : Sp) : Prop where
  len : ∀ vs H Q E, sp vs H Q E → vs.length = ps.length
  run : ∀ (A : Around) (outer : List Env) (s : Shared) (H : Hp) (args : Args) (us : List Value) (vs : List V) (Q : VK) (E : XK), A.guards = some [] → Room k A → Env0 P w K mg base A outer s H →
    BindsTo s fd args (ps.zip us) → Vals vs us → sp vs H Q E → codeAny (model P w) A (.call (.ref f) args) (CR CX outer P w H s Q E) s
section
variable {P : Program} {w : World} {K : PySem.W.Frag} {mg : Str → Option Value} {base : Heap} {CX : CXT} {k : Nat} {f : Addr} {fd : FuncData} {ps : List Str} {sp : Sp}
theorem FnG.of (F : FnOk P w K mg base CX k f fd ps sp) : FnG P w K mg base CX k f fd ps sp :=
  ⟨F.len, fun A outer s H args us vs Q E _ => F.run A outer s H args us vs Q E⟩
/-- the rule for a def, as Fun.ok -/
theorem _root_.L2.Fun.okGX {x qual : Str} {st : Stmt} {N : List Str} (F : Fun K x qual st f fd) (S : FnScope N ps (defScope st)) (len : ∀ vs H Q E, sp vs H Q E → vs.length = ps.length)
    (hbody : ∀ (cdv : Value) (A : Around) (outer : List Env) (s : Shared) (H : Hp) (vs : List V) (Q : VK) (E : XK), (A.deeper (envOfC qual (defScope st) s.heap.objs.size f cdv)).guards = some [] →
      Room k (A.deeper (envOfC qual (defScope st) s.heap.objs.size f cdv)) → sp vs H Q E →
      ∃ t, PSs (cxOf CX P w K mg base N qual (defScope st) f cdv A outer s H E) (defBody st) t ∧ t { nx := fun _ H' => Q .non H', rt := Q } (start N vs) H) :
    FnG P w K mg base CX (k + 1) f fd ps sp := by
  obtain ⟨oc, od, kV, doc, pm, an, cdv, ct, osl, rfl, lk, hcd⟩ := F.ex
  refine ⟨len, fun A outer s H args us vs Q E hgd room e0 bs rv hsp => ?_⟩
  have inK : K.In s.heap := e0.mod.kin.keeps fun c ob z => (e0.bs c ob z).1
  have kinds : ∀ y ∈ ps.zip us, (defScope st).names.lookup y.1 = some .local ∨ ((defScope st).names.lookup y.1 = some .cell ∧
      ((cellsFrom (s.heap.objs.size + 1) (defScope st).names []).lookup y.1).isSome = true) := by
    rintro ⟨n, v⟩ hy
    rcases S.par n (List.of_mem_zip hy).1 with q | q
    · exact Or.inl q
    · exact Or.inr ⟨q, PySem.W.cellsFrom_some _ _ _ (Or.inl q)⟩
  refine codeAny_call_function room.depth (inK _ _ lk) rfl S.co S.gen rfl (PySem.W.codeRec_of inK hcd) (bs _ _ _ _ ?_)
  refine wpAny_newFunctionEnv_cells S.kind kinds fun env he s1 x => ?_
  subst he
  refine ⟨(e0.mod.nolimit.keeps fun c ob z => (e0.bs c ob z).1).keeps x.toInCall.keep, codeAny_func ?_⟩
  obtain ⟨t, ht, hq⟩ := hbody cdv A outer s H vs Q E hgd (room.deeper _) hsp
  have I := inv_start (CX := CX) (E := E) S room.hd e0 (len _ _ _ _ hsp) rv x
  refine wpAny_mono (ht.run [] s1 (start N vs) H _ I hq) (fun fl s' z => ?_) fun _ _ z => z
  cases fl with
  | next =>
    obtain ⟨σ', H', J, q⟩ := z
    exact ⟨V.non, H', J.os, J.bare, J.base, J.hok, rfl, q⟩
  | ret u =>
    obtain ⟨v, σ', H', J, r, q⟩ := z
    exact ⟨v, H', J.os, J.bare, J.base, J.hok, r, q⟩
  | brk => obtain ⟨_, _, _, q⟩ := z; exact q.elim
  | cont => obtain ⟨_, _, _, q⟩ := z; exact q.elim
/-- .. where nothing is let out -/
theorem _root_.L2.Fun.okG {x qual : Str} {st : Stmt} {N : List Str} (F : Fun K x qual st f fd) (S : FnScope N ps (defScope st)) (len : ∀ vs H Q E, sp vs H Q E → vs.length = ps.length)
    (hbody : ∀ (cdv : Value) (A : Around) (outer : List Env) (s : Shared) (H : Hp) (vs : List V) (Q : VK) (E : XK), (A.deeper (envOfC qual (defScope st) s.heap.objs.size f cdv)).guards = some [] →
      Room k (A.deeper (envOfC qual (defScope st) s.heap.objs.size f cdv)) → sp vs H Q E →
      ∃ t, PSs (cxOf CX0 P w K mg base N qual (defScope st) f cdv A outer s H E).nox (defBody st) t ∧ t { nx := fun _ H' => Q .non H', rt := Q } (start N vs) H) :
    FnG P w K mg base CX0 (k + 1) f fd ps sp := L2.Fun.okGX F S len fun cdv A outer s H vs Q E g r h => by
  obtain ⟨t, h1, h2⟩ := hbody cdv A outer s H vs Q E g r h
  exact ⟨t, h1.nox, h2⟩
end
section
variable {X : Cx} {CX : CXT} {k : Nat} {f : Addr} {fd : FuncData} {ps : List Str} {sp : Sp} {x : Str} {p pos : Pos} {e : Expr} {es : List Expr} {t : TA}
theorem run_fnGS {pins : List (Addr × Obj)} {σ : L2.St} {H : Hp} {s : Shared} {Q : VK} {us : List Value} {vs : List V} {E : XK} (F : FnG X.prog X.w X.K X.mg X.base CX k f fd ps sp) (hgd : X.A.guards = some []) (hr : Room k X.A)
    (hb : Binds X.K fd ps []) (hx : ∀ (e : Value) (s' : Shared), CX X.stack H s E e s' → X.xe e s') (I : L2.Inv X pins σ H s) (r : Vals vs us) (h : sp vs H Q E) :
    wpAny (model X.prog X.w) X.A (call (.ref f) us) (EP X pins σ Q) X.xe s := by
  have b := hb s us I.kIn (by rw [List.append_nil, ← r.length]; exact F.len _ _ _ _ h)
  rw [List.append_nil] at b
  refine wpAny_call (codeAny_mono (F.run X.A X.stack s H ⟨us, []⟩ us vs Q E hgd hr I.env0 b r h) fun res s' z => ?_)
  match res, z with
  | .error e, z => exact hx e s' z
  | .ok (.ret u), z => exact I.after z
  | .ok .next, z => exact z.elim
  | .ok .brk, z => exact z.elim
  | .ok .cont, z => exact z.elim
theorem pe_callG (F : FnG X.prog X.w X.K X.mg X.base CX0 k f fd ps sp) (hgd : X.A.guards = some []) (hr : Room k X.A) (hg : Gl X x) (hm : X.mg x = some (.ref f)) (hk : PySem.W.keepIn X.K (.ref f) = true) (hb : Binds X.K fd ps [])
    (ha : PA X (e :: es) t) (hdb : (x == ("__debug__" : Str)) = false := by decide) (he : starEach (e :: es) X.env = (false, eval e X.env) :: starEach es X.env := by rfl)
    (hpl : (backTo pos (starEach es X.env)).any (·.1) = false := by rfl) : PE X (.Call (.Name x p) (e :: es) [] pos) (tCall sp [] E0 t) :=
  ⟨fun pins s σ H Q I h => wpAny_Call_Name_kw (ld_glob I hg hm (PySem.W.callWith_K (h₀ := X.base) I.ok.mod.kin hk
    (thn (ha.run pos pins s σ H _ I h) fun us s1 ⟨vs, H1, I1, r, q⟩ => ⟨I1.kIn, by
      have q' : sp (vs ++ []) H1 Q E0 := q
      rw [List.append_nil] at q'
      exact run_fnGS F hgd hr hb (fun _ _ z => z.elim) I1 r q'⟩) he hpl) hdb)⟩
theorem pe_callSG {E : L2.St → XK} (F : FnG X.prog X.w X.K X.mg X.base CX k f fd ps sp) (hgd : X.A.guards = some []) (hr : Room k X.A) (hg : Gl X x) (hm : X.mg x = some (.ref f)) (hk : PySem.W.keepIn X.K (.ref f) = true) (hb : Binds X.K fd ps [])
    (hx : ∀ σ, PassesAt CX X σ (E σ)) (ha : PA X (e :: es) t) (hdb : (x == ("__debug__" : Str)) = false := by decide)
    (he : starEach (e :: es) X.env = (false, eval e X.env) :: starEach es X.env := by rfl) (hpl : (backTo pos (starEach es X.env)).any (·.1) = false := by rfl) :
    PE X (.Call (.Name x p) (e :: es) [] pos) (tCallS sp E t) :=
  ⟨fun pins s σ H Q I h => wpAny_Call_Name_kw (ld_glob I hg hm (PySem.W.callWith_K (h₀ := X.base) I.ok.mod.kin hk
    (thn (ha.run pos pins s σ H _ I h) fun us s1 ⟨vs, H1, I1, r, q⟩ => ⟨I1.kIn, run_fnGS F hgd hr hb (fun _ _ z => hx σ pins H1 s1 _ _ I1 z) I1 r q⟩) he hpl) hdb)⟩
end
/-! ### repr -/
mutual
theorem dp_nodict {K : PySem.W.Frag} {H : Hp} : ∀ (d : PyData) (v : V), Dp K H v d → d.hasDict = false
  | .none, _, _ => rfl
  | .bool _, _, _ => rfl
  | .int _, _, _ => rfl
  | .str _, _, _ => rfl
  | .list ds, _, h => by cases h with | lst _ h2 => exact dp_nodicts ds _ h2
  | .tuple ds, _, h => by cases h with | tup _ h2 => exact dp_nodicts ds _ h2
  | .dict _, _, h => by cases h
theorem dp_nodicts {K : PySem.W.Frag} {H : Hp} : ∀ (ds : List PyData) (vs : List V), DpAll K H vs ds → PyData.hasDictAll ds = false
  | [], _, _ => rfl
  | d :: ds, _, h => by
    cases h with
    | cons h1 h2 =>
      have e1 := dp_nodict d _ h1
      have e2 := dp_nodicts ds _ h2
      simp [PyData.hasDictAll, e1, e2]
end
def rRepr (K : PySem.W.Frag) : List V → Hp → VK → Prop := fun xs H Q => ∃ x d, xs = [x] ∧ Dp K H x d ∧ d.showable = true ∧ d.depth ≤ 64 ∧ d.shown.length ≤ sizeLine ∧ Q (.str d.shown) H
theorem call_repr {X : Cx} (hg : X.A.guards = some []) (hu : X.A.units + 66 < cLine) : CallR X (.builtin "repr") (rRepr X.K) := by
  intro pins s σ H xs us Q I r h
  obtain ⟨x, d, rfl, hd, hs, hdep, hsz, q⟩ := h
  obtain ⟨u, rfl, rx⟩ := vals1 r
  have go : ∀ (h' : Heap) (t tk : Tok), (∀ b o, s.heap.get? b = some o → h'.get? b = some o) → EP X pins σ Q (.str d.shown t) { s with heap := h', toks := tk } :=
    fun h' t tk kp => ⟨.str d.shown, H, I.kept kp, ⟨t, rfl⟩, q⟩
  obtain ⟨as, rd⟩ := Dp.reads I d x u hd rx
  cases hd with
  | non => cases rx; exact P.repr_of_none (go _ _ _ fun _ _ z => z)
  | bl b => cases rx; exact P.repr_of_bool (go _ _ _ fun _ _ z => z)
  | int i => obtain ⟨t, rfl⟩ := rx; exact P.repr_of_int (of_decide_eq_true hs) (go _ _ _ fun _ _ z => z)
  | str z => obtain ⟨t, rfl⟩ := rx; exact P.repr_of_str (go _ _ _ fun _ _ z => z) hsz
  | lst h1 h2 =>
    cases rx
    exact repr_of_reads' rd hs (fun z => by rw [dp_nodict _ _ (.lst h1 h2)] at z; cases z) hg (by omega) (fun _ _ z => z) (fun h' t tk kp => go h' t tk kp) hsz
  | tup h1 h2 =>
    cases rx
    exact repr_of_reads' rd hs (fun z => by rw [dp_nodict _ _ (.tup h1 h2)] at z; cases z) hg (by omega) (fun _ _ z => z) (fun h' t tk kp => go h' t tk kp) hsz
theorem call_reprK {X : Cx} {K : PySem.W.Frag} (hg : X.A.guards = some []) (hu : X.A.units + 66 < cLine) (h : X.K = K := by rfl) : CallR X (.builtin "repr") (rRepr K) := h ▸ call_repr hg hu
theorem un66 {k : Nat} {A : Around} (hr : Room k A) : A.units + 66 < cLine := by have := hr.un; omega
/-! ### the end for a law whose def is one of these -/
theorem law_callG {P : Program} {w : World} {K : PySem.W.Frag} {mg mb : Str → Option Value} {k : Nat} {fa a : Addr} {fd : FuncData} {sp : Sp} {s₁ : Shared} {vs : List Value} {ns : List Int}
    (inK : K.In s₁.heap) (top : s₁.heap.Ns mainGlobals mg) (blt : s₁.heap.Ns builtinsNs mb) (blts : ∀ x : Str, x ≠ "__name__" → mb x = bootBuiltins x) (lim : s₁.heap.NoLimit) (gens : s₁.gens = #[])
    (ha : s₁.heap.get? a = some { cls := .type "list", data := .seq vs.toArray }) (isI : IntsAre vs ns) (size : ns.length ≤ sizeLine) (room : Room k callerA)
    (F : ∀ base : Heap, K.In base → base.Ns mainGlobals mg → FnG P w K mg base CX0 k fa fd ["script"] sp) (hbind : ∀ (s : Shared) (u : Value), BindsTo s fd ⟨[u], []⟩ [("script", u)])
    (hsp : ∀ H : Hp, Only H → SqL K H a (ns.map V.int) → sp [.ref a] H (fun v _ => v = .bl true) fun _ _ _ => False) :
    codeAny (model P w) callerA (.call (.ref fa) ⟨[.ref a], []⟩) (fun r s' => r = .ok (.ret (.bool true)) ∧ OldK s₁.heap s'.heap ∧ s'.os = s₁.os ∧ AllBare s'.gens) s₁ := by
  have rv : Vals (ns.map V.int) vs := vals_ints isI
  have core : ∀ H : Hp, Only H → SqL K H a (ns.map V.int) → HOk P w H s₁.heap → (∀ b, H b ≠ none → b = a) → (H a ≠ none → K.lookup a = none) →
      codeAny (model P w) callerA (.call (.ref fa) ⟨[.ref a], []⟩) (fun r s' => r = .ok (.ret (.bool true)) ∧ OldK s₁.heap s'.heap ∧ s'.os = s₁.os ∧ AllBare s'.gens) s₁ := by
    intro H only sq hok tracked notK
    have free : ∀ {b : Addr} {o : Obj}, s₁.heap.get? b = some o → (∀ es ep, o.data = .dict es ep → b ≠ a) := by
      intro b o e es ep d z
      rw [z, ha] at e
      cases e
      cases d
    have nsH : ∀ {b : Addr} {m : Str → Option Value}, s₁.heap.Ns b m → (hidT s₁.heap H).Ns b m := by
      rintro b m ⟨o, es, ep, e, d, rest⟩
      refine ⟨o, es, ep, hidT_get e ?_, d, rest⟩
      cases q : H b with
      | none => rfl
      | some u => exact absurd (tracked b (by rw [q]; exact fun z => nomatch z)) (free e es ep d)
    have KH : K.In (hidT s₁.heap H) := by
      intro b o e
      refine hidT_get (inK b o e) ?_
      cases q : H b with
      | none => rfl
      | some u =>
        have hb := tracked b (by rw [q]; exact fun z => nomatch z)
        rw [hb] at e q
        rw [notK (by rw [q]; exact fun z => nomatch z)] at e
        cases e
    obtain ⟨mc, l1, l2⟩ := lim
    have e0 : Env0 P w K mg (hidT s₁.heap H) callerA [] s₁ H :=
      ⟨rfl, ⟨KH, nsH top, ⟨mb, nsH blt, blts⟩, ⟨mc, nsH l1, l2⟩⟩, fun b o e => of_hidT e, Nat.le_of_eq (hidT_size _ _), trivial, (fun b hb => nomatch hb), hok, .of_eq gens⟩
    refine codeAny_mono ((F _ KH (nsH top)).run callerA [] s₁ H ⟨[.ref a], []⟩ [.ref a] [.ref a] _ _ rfl room e0 (hbind s₁ (.ref a)) (.cons rfl .nil) (hsp H only sq)) fun r s' z => ?_
    match r, z with
    | .error _, z => exact z.elim
    | .ok .next, z => exact z.elim
    | .ok .brk, z => exact z.elim
    | .ok .cont, z => exact z.elim
    | .ok (.ret u), z =>
      obtain ⟨v, H', os, bare, un, hok', rel, tru⟩ := z
      replace tru : v = .bl true := tru
      subst tru
      obtain rfl : u = Value.bool true := rel
      refine ⟨rfl, OldK.of_keep fun b o e => ?_, os, bare⟩
      rcases only b with q | ⟨ob, xs, q⟩
      · exact un.keep b o e q (fun h => nomatch h) (fun h => nomatch h)
      · have same1 := (hok b _ q).1
        have same2 := (hok' b _ (un.frzs b ob _ q)).1
        rw [e] at same1
        cases same1
        exact same2
  cases hk : K.lookup a with
  | some o =>
    have e := inK a o hk
    rw [ha] at e
    cases e
    exact core (fun _ => none) (fun _ => Or.inl rfl) (Or.inr ⟨_, vs.toArray, _, hk, rfl, rfl, rfl, by rw [List.size_toArray, isI.length]; exact size, by simpa using rv⟩)
      (fun _ _ z => nomatch z) (fun _ z => absurd rfl z) fun z => absurd rfl z
  | none =>
    have at_a : ∀ b, b ≠ a → (if b = a then some (HO.frz { cls := .type "list", data := .seq vs.toArray } (.lst (ns.map V.int))) else none) = none := fun b z => if_neg z
    refine core (fun b => if b = a then some (.frz { cls := .type "list", data := .seq vs.toArray } (.lst (ns.map V.int))) else none) (fun b => ?_)
      (Or.inl (Or.inr ⟨{ cls := .type "list", data := .seq vs.toArray }, if_pos rfl⟩)) (fun b u z => ?_) (fun b z => Classical.byContradiction fun q => z (at_a b q)) fun _ => hk
    · by_cases q : b = a
      · exact Or.inr ⟨_, _, if_pos q⟩
      · exact Or.inl (at_a b q)
    · by_cases q : b = a
      · have z2 := (if_pos q).symm.trans z
        cases z2
        subst q
        exact ⟨ha, by rw [List.length_map]; exact size, vs, _, rv, ha⟩
      · have z2 := (at_a b q).symm.trans z
        cases z2
theorem walk_ofG {l : PySem.W.OpenLaw} {k : Nat} {q : Program} {loose : List Str} {XP : (Str → Option Value) → Heap → Prop} {YP : World → Heap → Prop} {d : DefRec} {K : Params → PySem.W.Frag} {sp : World → Sp}
    (hn : l.most = some 63) (hdf : d.params.defaults = []) (hr : Room k callerA) (hY : ∀ (w : World) (h : Heap), YP w h → (K w.params).In h)
    (F : ∀ (w : World) (mg : Str → Option Value) (fa : Addr) (h : Heap), (K w.params).In h → h.Ns mainGlobals mg → mg d.name = some (.ref fa) →
      ∃ fd : FuncData, (∀ (s : Shared) (u : Value), BindsTo s fd ⟨[u], []⟩ [("script", u)]) ∧
        ∀ base : Heap, (K w.params).In base → base.Ns mainGlobals mg → FnG l.prog w (K w.params) mg base CX0 k fa fd ["script"] (sp w))
    (hsp : ∀ (w : World) (H : Hp) (a : Addr) (ns : List Int), ns.length ≤ 63 → Only H → SqL (K w.params) H a (ns.map V.int) → sp w [.ref a] H (fun v _ => v = .bl true) fun _ _ _ => False) :
    PySem.W.WalkO q loose XP YP l.row.toRowW d [] (fun f vs => PySem.call f vs) := by
  refine Att.attach_call hn hdf fun w s₀ s₁ mg mb fa o pm cd doc a vs ns G Y ho hd hcd hmg hobj hints hlen hg => ?_
  obtain ⟨fd, hb, hF⟩ := F w mg fa _ (hY w _ Y) G.T.g hmg
  exact law_callG (hY w _ Y) G.T.g G.T.b G.T.builtins G.T.nolimit hg hobj hints (Nat.le_trans hlen (by decide)) hr hF hb (fun H hO hS => hsp w H a ns hlen hO hS)

/-! ### an exception that a suite puts away: behind the try it is an object like others -/
/-- an exception of the class cls with the own dict d, at a -/
def ExcO (cls : Value) (d : Option Addr) (a : Addr) : HO := .ext fun h => ∃ (oe : Obj) (vs : Array Value), h.get? a = some oe ∧ Zc cls d oe ∧ oe.data = .fields vs
def endKeep (i : Nat) (a : Addr) (cls : Value) (d : Option Addr) (D : Ends) : Ends where
  nx := fun σ' H' => (H' a = none → D.nx (List.set σ' i none) (upd H' a (ExcO cls d a)))
  rt := D.rt
  bk := fun σ' H' => D.bk (List.set σ' i none) H'
  ct := fun σ' H' => D.ct (List.set σ' i none) H'
def wKeep (K : PySem.W.Frag) (c : Value) (i : Nat) (ts : Addr → Value → Option Addr → TS) (Wout : WX) (D : Ends) : WX := fun cls d σ H =>
  ∃ b, PySem.W.exmOne K cls c = some b ∧ (b = true → ∀ a, H a = none → ts a cls d (endKeep i a cls d D) (List.set σ i (some (.ref a))) H) ∧ (b = false → Wout cls d σ H)
section
variable {X : Cx} {pins : List (Addr × Obj)} {σ : L2.St} {H : Hp} {s : Shared}
/-- what was made since the entry and is untracked is tracked from now on -/
theorem Inv.keepExc {a : Addr} {oe : Obj} {vs : Array Value} {cls : Value} {d : Option Addr} (I : L2.Inv X ((a, oe) :: pins) σ H s) (hz : Zc cls d oe) (hd : oe.data = .fields vs)
    (new : ∀ o, X.s_0.heap.get? a = some o → X.H_0 a = none → a ∉ X.ex → False) (np : ∀ p ∈ X.pn ++ pins, p.1 ≠ a) : L2.Inv X pins σ (upd H a (ExcO cls d a)) s := by
  obtain ⟨he, na, nL, nF, nC⟩ := I.pin (a, oe) (List.mem_append_right _ List.mem_cons_self)
  have off : ∀ {b : Addr} {u : HO}, H b = some u → (upd H a (ExcO cls d a)) b = some u := fun {b u} z => by rw [upd_ne (ne_of_none z na)]; exact z
  have un : Un X.fs X.ex X.H_0 (upd H a (ExcO cls d a)) X.s_0.heap s.heap :=
    { keep := I.base.keep
      slot := I.base.slot
      there := I.base.there
      free := fun b o q n hx => by
        by_cases e : b = a
        · subst e; exact (new o q n hx).elim
        · rw [upd_ne e]; exact I.base.free b o q n hx
      tups := fun b xs q => off (I.base.tups b xs q)
      frzs := fun b o u q => off (I.base.frzs b o u q)
      tbls := fun b ps q => by obtain ⟨more, z⟩ := I.base.tbls b ps q; exact ⟨more, off z⟩ }
  have there : ObjOk X.prog X.w (upd H a (ExcO cls d a)) s.heap a (ExcO cls d a) :=
    ⟨⟨oe, vs, he, hz, hd⟩, ⟨oe, he⟩, fun h1 h2 ⟨o, v, q1, q2, q3⟩ kp => ⟨o, v, kp o q1, q2, q3⟩⟩
  refine ⟨I.ok, I.os, I.bare, un, I.loc, I.cell, ?_, fun x c z => ?_, fun p hp => ?_, fun b u z => ?_, I.len⟩
  · rw [upd_ne (Ne.symm nL)]; exact I.free
  · obtain ⟨v, hv⟩ := I.cell x c z
    have nc : c ≠ a := fun e => by
      subst e
      obtain ⟨o, h1, h2⟩ := hv
      have eo : oe = o := Option.some.inj (he.symm.trans h1)
      exact nC v (by show oe.data = _; rw [eo]; exact h2)
    rw [upd_ne nc]
    exact I.freeC x c z
  · have q := I.pin p (by
      rcases List.mem_append.mp hp with h | h
      · exact List.mem_append_left _ h
      · exact List.mem_append_right _ (List.mem_cons_of_mem _ h))
    exact ⟨q.1, by rw [upd_ne (np p hp)]; exact q.2.1, q.2.2⟩
  · by_cases e : b = a
    · subst e
      rw [upd_same] at z
      cases z
      exact there
    · rw [upd_ne e] at z
      refine (I.hok b u z).stay (fun _ _ _ q => q) (fun c q => off q) (fun c xs q => off q)
end
section
variable {X : Cx} {x n : Str} {c : Value} {i : Nat} {body suite : List Stmt} {b₀ : Stmt} {np pos pos' : Pos} {tb : WX → TS} {ts : Addr → Value → Option Addr → TS} {Wout : WX}
/-- try: body / except x as n: suite, where the suite may put the exception away -/
theorem ps_try_keep (hs : X.stack = X.env :: X.outer) (hf : X.env.frame = some X.env.locals) (hN : X.N.Nodup) (hi : X.N[i]? = some n) (hln : X.env.kindOf n = some .local) (hc : Names X x c) (tk : Takes X Wout)
    (hb : ∀ (W : WX) (pn : List (Addr × Obj)) (xe : Value → Shared → Prop), Takes (X.tr pn xe) W → PassesOwn (model X.prog X.w) X.A X.env xe → PSs (X.tr pn xe) body (tb W))
    (hsu : ∀ (a : Addr) (oe : Obj) (cls : Value) (d : Option Addr) (pn : List (Addr × Obj)), Zc cls d oe → (∃ vs, oe.data = .fields vs) → PSs (X.suite a ((a, oe) :: pn)) (b₀ :: suite) (ts a cls d)) :
    PS X (.Try body [.ExceptHandler (some (.Name x np)) (some n) (b₀ :: suite) pos'] [] [] pos) (fun D σ H => tb (wKeep X.K c i ts Wout D) D σ H) := by
  constructor
  intro pins s σ H D I h
  have frames : X.A.frames = some (X.env :: X.outer) := by rw [I.ok.frames, hs]
  refine wpAny_Try_except (wpAny_mono ((hb (wKeep X.K c i ts Wout D) (X.pn ++ pins) _ (fun u s' xx => ?caught) PassesOwn.looking).run [] s σ H D (I.toTry _) h) (fun f s1 z => ?through) (fun _ _ z => z))
  case through =>
    cases f with
    | next => obtain ⟨σ', H', J, q⟩ := z; exact wpAny_execs_nil ⟨σ', H', J.ofTry I.ok, q⟩
    | brk => obtain ⟨σ', H', J, q⟩ := z; exact ⟨σ', H', J.ofTry I.ok, q⟩
    | cont => obtain ⟨σ', H', J, q⟩ := z; exact ⟨σ', H', J.ofTry I.ok, q⟩
    | ret u => obtain ⟨v, σ', H', J, r, q⟩ := z; exact ⟨v, σ', H', J.ofTry I.ok, r, q⟩
  case caught =>
    obtain ⟨a, B, sI, pins', σ', H', cls, d, rfl, JT, nb, up, sky, na, os, ag, b, test, yes, no⟩ := xx
    have J : L2.Inv X pins σ' H' sI := JT.ofTry I.ok
    show wpAny (model X.prog X.w) X.A (noteFrame (.ref a) X.env) _ _ _
    refine Sky.land Zc.steady frames hf (show Sky B (X.env :: X.outer) a (Zc cls d) X.env.locals s'.heap by rw [← hs]; exact sky) fun h3 fl3 up3 => ?_
    have J3 : L2.Inv X pins σ' H' { s' with heap := h3 } := J.landed nb fl3.1 (up.trans up3) os ag
    obtain ⟨oe3, vs3, he3, hz3, hd3⟩ := fl3.there
    have offFrames : a ∉ frs (X.env :: X.outer) := fun hm => by
      obtain ⟨_, o, eo, hnf⟩ := (fl3.2.2.1).mem hm
      exact hnf vs3 (by rw [← Option.some.inj (he3.symm.trans eo)]; exact hd3)
    have fresh : sI.heap.get? a = none := by
      cases q : sI.heap.get? a with
      | none => rfl
      | some o =>
        have z := nb a o q (by rw [hs]; exact offFrames)
        rw [fl3.2.1] at z
        cases z
    have nL : a ≠ X.env.locals := fun z => offFrames (List.mem_filterMap.mpr ⟨X.env, List.mem_cons_self, by rw [hf, z]⟩)
    have nF : a ∉ X.fs := fun hm => by
      obtain ⟨e, he, q⟩ := List.mem_filterMap.mp hm
      exact offFrames (List.mem_filterMap.mpr ⟨e, List.mem_cons_of_mem _ he, q⟩)
    have S3 := J3.suite he3 hd3 na nL nF
    refine wpAny_handleBy_cons (codeAny_handlers_test ?_) (fun q => nomatch q)
    have looks : PySem.W.Looks (model X.prog X.w) h3 (typeOf (.ref a)) cls := fun A Q E s k q => wpAny_typeOf_ref (k _ _ he3) (by rw [hz3.1]; exact q)
    have named : ∀ {Q : Value → Shared → Prop} {E : Value → Shared → Prop}, Q c { s' with heap := h3 } → wpAny (model X.prog X.w) (X.A.mark (some (.ref a))) (eval (.Name x np) X.env) Q E { s' with heap := h3 } := by
      intro Q E q
      obtain ⟨glob, dbg, own | ⟨notOwn, boot, notName⟩⟩ := hc
      · exact ld_glob (X := X.suite a ((a, oe3) :: (X.pn ++ pins))) S3 glob own q dbg
      · exact ld_blt (X := X.suite a ((a, oe3) :: (X.pn ++ pins))) S3 glob notOwn boot q notName dbg
    refine named ((PySem.W.exm_one (M := model X.prog X.w) (J3.kIn) looks test).here ?_)
    cases b with
    | true =>
      refine codeAny_handlers_suite_as (HandSPX.lands_againZ fl3 fun h4 fl4 up4 => ?_)
      have J4 : L2.Inv X pins σ' H' { s' with heap := h4 } := J.landed nb fl4.1 ((up.trans up3).trans up4) os ag
      obtain ⟨oe4, vs4, he4, hz4, hd4⟩ := fl4.there
      refine store_ok (X := X.suite a ((a, oe4) :: (X.pn ++ pins))) (v := .ref a) (J4.suite he4 hd4 na nL nF) hN hi (.inl hln) rfl (fun s5 S5 => ?_) (.inr hln)
      refine wpAny_mono ((hsu a oe4 cls d (X.pn ++ pins) hz4 ⟨_, hd4⟩).run [] s5 _ H' _ S5 (yes rfl a na)) (fun f s6 z => ?_) (fun _ _ z => z.elim)
      have away : ∀ {σ6 : L2.St} {H6 : Hp} {Q : Shared → Prop}, L2.Inv (X.suite a ((a, oe4) :: (X.pn ++ pins))) [] σ6 H6 s6 → (∀ s7, L2.Inv X ((a, oe4) :: pins) (List.set σ6 i none) H6 s7 → Q s7) →
          wpAny (model X.prog X.w) X.A (do bindName X.env n .none; unbindBehindTheSuite X.env n pos') (fun _ s7 => Q s7) X.xe s6 := by
        intro σ6 H6 Q S6 hq
        refine gone_ok (X := X) (pins := (a, oe4) :: pins) ((S6.unsuite I.ok).pins_of fun p hp => ?_) hN hi hln hq
        rcases List.mem_cons.mp hp with z | z
        · subst z; exact S6.pin _ (List.mem_append_left _ List.mem_cons_self)
        · exact S6.pin p (List.mem_append_left _ (List.mem_cons_of_mem _ (List.mem_append_right _ z)))
      have back : ∀ {σ7 : L2.St} {H7 : Hp} {s7 : Shared}, L2.Inv X ((a, oe4) :: pins) σ7 H7 s7 → L2.Inv X pins σ7 H7 s7 := fun S7 =>
        S7.pins_of fun p hp => S7.pin p (List.mem_append_right _ (List.mem_cons_of_mem _ hp))
      cases f with
      | next =>
        obtain ⟨σ6, H6, S6, q6⟩ := z
        refine away S6 fun s7 S7 => ⟨_, _, Inv.keepExc S7 hz4 hd4 (fun o e0 n0 x0 => ?_) (fun p hp e => ?_), q6 (S7.pin (a, oe4) (List.mem_append_right _ List.mem_cons_self)).2.1⟩
        · have z := J.base.keep a o e0 n0 nF x0
          rw [fresh] at z
          cases z
        · have z := (J.pin p hp).1
          rw [e, fresh] at z
          cases z
      | brk => obtain ⟨σ6, H6, S6, q6⟩ := z; exact away S6 fun s7 S7 => ⟨_, _, back S7, q6⟩
      | cont => obtain ⟨σ6, H6, S6, q6⟩ := z; exact away S6 fun s7 S7 => ⟨_, _, back S7, q6⟩
      | ret u => obtain ⟨v6, σ6, H6, S6, r6, q6⟩ := z; exact away S6 fun s7 S7 => ⟨_, _, _, back S7, r6, q6⟩
    | false =>
      show wpAny _ X.A (handleBy (.ref a) X.env []) _ _ _
      obtain ⟨k1, k2, k3, oe, vs, T, oT, ts', he, hz, hd, h1, hr⟩ := id fl3
      refine wpAny_handleBy_nil ?_
      unfold PySem.passOn
      refine wpAny_bind (wpAny_field he hd h1 ?_)
      rw [if_neg (show ¬ ((Value.ref T == Value.none) = true) from by simp)]
      have up2 : wpAny (model X.prog X.w) X.A (setFlight (.ref a) X.env.frame) (fun _ s4 => wpAny (model X.prog X.w) X.A (throw (.ref a) : Sem Flow) (SP X pins D) X.xe s4) X.xe { s' with heap := h3 } := by
        rw [hf]
        exact HandSPX.setFlight_upZ fl3 fun h4 hh4 up4 => wpAny_throw (tk _ _
          ⟨a, B, sI, pins, σ', H', cls, d, rfl, J, nb, (up.trans up3).trans up4, .inr (.inr (by rw [hs]; exact hh4)), na, os, ag, no rfl⟩)
      first
        | exact wpAny_bind (wpAny_pure (wpAny_bind up2))
        | exact wpAny_bind up2
end
/-! ### isinstance of such an object -/
def rIsO (K : PySem.W.Frag) : List V → Hp → VK → Prop := fun xs H Q => ∃ (a D : Addr) (c : V) (cv : Value) (b : Bool), xs = [.ref a, c] ∧ H a = some (ExcO (.ref D) none a) ∧ ExcC K D ∧ (∀ u, RelV c u → u = cv) ∧ PySem.W.kitOne K (.ref D) cv = some b ∧ Q (.bl b) H
theorem call_isO {X : Cx} : CallR X (.builtin "isinstance") (rIsO X.K) := by
  intro pins s σ H xs us Q I r h
  obtain ⟨a, D, c, cv, b, rfl, ha, C, hcv, e, q⟩ := h
  obtain ⟨u1, u2, rfl, rx, rt⟩ := vals2 r
  cases rx
  obtain rfl := hcv _ rt
  obtain ⟨⟨oe, vs, he, hz, hd⟩, _⟩ := (show ObjOk X.prog X.w H s.heap a (ExcO (.ref D) none a) from I.hok a _ ha)
  have J : PySem.W.InstAt s.heap a oe D none := ⟨he, hz.1, by unfold PySem.W.notCls; rw [hd] <;> rfl, by rw [hz.2]; trivial⟩
  exact PySem.W.kia_one (PySem.W.handS_kitx_exc C.hg C.hk C.hs C.hd C.ha C.hn C.ht C.hm) I.kIn J e (fun z => nomatch z) fun tk => ⟨.bl b, H, I.kept (t' := tk) fun _ _ z => z, rfl, q⟩
theorem call_isOK {X : Cx} {K : PySem.W.Frag} (h : X.K = K := by rfl) : CallR X (.builtin "isinstance") (rIsO K) := h ▸ call_isO
/-! ### list.count of truth values -/
def rCntB (K : PySem.W.Frag) : V → List V → Hp → VK → Prop := fun x xs H Q => ∃ (p : Addr) (bs : List Bool) (k : Bool), x = .ref p ∧ xs = [.bl k] ∧ SqL K H p (bs.map V.bl) ∧ Q (.int (bs.count k : Nat)) H
theorem dpAll_bl {K : PySem.W.Frag} {H : Hp} : ∀ bs : List Bool, DpAll K H (bs.map V.bl) (bs.map PyData.bool)
  | [] => .nil
  | b :: r => .cons (.bl b) (dpAll_bl r)
theorem countIn_bl (k : Bool) : ∀ bs : List Bool, PySem.Spec.countIn (.bool k) (bs.map PyData.bool) = ((bs.count k : Nat) : Int)
  | [] => rfl
  | b :: r => by
    have ih := countIn_bl k r
    rw [List.map_cons, PySem.Spec.countIn, ih, List.count_cons]
    cases b <;> cases k <;> simp [PySem.Spec.same] <;> omega
theorem mt_countB {X : Cx} : MtR X "list.count" (rCntB X.K) := by
  intro pins s σ H x xs v us Q I rx rxs h
  obtain ⟨p, bs, k, rfl, rfl, hs, q⟩ := h
  cases rx
  obtain ⟨u, rfl, ru⟩ := rxs.one
  cases ru
  obtain ⟨its, rv, pl, hlen⟩ := I.list hs
  obtain ⟨as, ra⟩ := Dp.readsAll I _ _ _ (dpAll_bl bs) rv
  refine PyProof.Rows.count_list_bools (k := k) pl.isList ra ?_ ?_
  · rw [List.all_map]
    exact List.all_eq_true.mpr fun _ _ => rfl
  · rw [countIn_bl]
    exact ⟨.int (bs.count k : Nat), H, I.tok _, ⟨s.toks, rfl⟩, q⟩

/-! ### the program's error classes, as the top has made them -/
structure Exn (K : PySem.W.Frag) (D PE : Addr) : Prop where
  x : PySem.W.excIn K D [.type "ValueError", .type "Exception", .type "BaseException", .type "object"] "ValueError.__new__" = true
  k : PySem.W.keepIn K (.ref D) = true
  b : PySem.W.subIn K (.ref D) (.type "BaseException") = some true
  t : PySem.W.typeIn K (.ref D) = some (.type "type")
  m : PySem.W.exmOne K (.ref D) (.ref PE) = some true
  i : ExcC K D
  v : PySem.W.kitOne K (.ref D) (.type "ValueError") = some true
  p : PySem.W.kitOne K (.ref D) (.ref PE) = some true
theorem exn_mk {K : PySem.W.Frag} {D PE : Addr} (x : PySem.W.excIn K D [.type "ValueError", .type "Exception", .type "BaseException", .type "object"] "ValueError.__new__" = true) (k : PySem.W.keepIn K (.ref D) = true)
    (b : PySem.W.subIn K (.ref D) (.type "BaseException") = some true) (t : PySem.W.typeIn K (.ref D) = some (.type "type")) (s : PySem.W.subIn K (.ref D) (.ref PE) = some true)
    (h1 : PySem.W.subIn K (.ref PE) (.type "BaseException") = some true) (h2 : PySem.W.hasDictIn K PE = true) (h3 : PySem.W.typeIn K (.ref PE) = some (.type "type"))
    (hg : PySem.W.findIn K (.ref D) "__getattribute__" = some (some (.builtin "BaseException.__getattribute__"))) (hk : PySem.W.findIn K (.ref D) "__getattr__" = some none) (hd : PySem.W.hasDictIn K D = true)
    (ha : PySem.W.findIn K (.ref D) "__class__" = some (some (.builtin "object.__class__"))) (hn : PySem.W.specialIn K (.builtin "object.__class__") "__get__" = some (some (.builtin "getset_descriptor.__get__")))
    (ht : PySem.W.takesIn K (.builtin "object.__class__") = some true) (hm : PySem.W.mroIn K D (.type "object") = some true)
    (v : PySem.W.kitOne K (.ref D) (.type "ValueError") = some true) (p : PySem.W.kitOne K (.ref D) (.ref PE) = some true) : Exn K D PE :=
  ⟨x, k, b, t, PySem.W.exm_ref h1 h2 h3 s, ⟨hg, hk, b, hd, ha, hn, ht, hm⟩, v, p⟩
/-- of a table of classes just the j-th is that of an error of the class D -/
def Kinds (K : PySem.W.Frag) (D : Addr) (tab : List Addr) (j : Nat) : Prop := ∀ (i : Nat) (C : Addr), tab[i]? = some C → PySem.W.kitOne K (.ref D) (.ref C) = some (decide (i = j))
theorem kinds_nil {K : PySem.W.Frag} {D : Addr} {n j : Nat} : ∀ (i : Nat) (C : Addr), ([] : List Addr)[i]? = some C → PySem.W.kitOne K (.ref D) (.ref C) = some (decide (i + n = j)) := fun i C h => by simp at h
theorem kinds_cons {K : PySem.W.Frag} {D C0 : Addr} {tab : List Addr} {n j : Nat} (h0 : PySem.W.kitOne K (.ref D) (.ref C0) = some (decide (n = j)))
    (h : ∀ (i : Nat) (C : Addr), tab[i]? = some C → PySem.W.kitOne K (.ref D) (.ref C) = some (decide (i + (n + 1) = j))) : ∀ (i : Nat) (C : Addr), (C0 :: tab)[i]? = some C → PySem.W.kitOne K (.ref D) (.ref C) = some (decide (i + n = j))
  | 0, C, e => by
    have e' : C0 = C := Option.some.inj e
    subst e'
    rw [Nat.zero_add]
    exact h0
  | i + 1, C, e => by
    have q := h i C e
    rw [show i + 1 + n = i + (n + 1) by omega]
    exact q
theorem bits_one (n : Nat) : ∀ j, j < n → ((List.range n).map fun i => decide (i = j)).count true = 1 := by
  intro j hj
  rw [List.count_eq_countP, List.countP_map]
  have : ∀ m, (List.range m).countP ((fun x => x == true) ∘ fun i => decide (i = j)) = if j < m then 1 else 0 := fun m => by
    induction m with
    | zero => rfl
    | succ m ih =>
      rw [List.range_succ, List.countP_append, ih]
      by_cases h : j < m
      · rw [if_pos h, if_pos (by omega)]
        have : ¬ m = j := by omega
        simp [this]
      · rw [if_neg h]
        by_cases e : m = j
        · subst e; simp
        · rw [if_neg (by omega)]
          simp [e]
  rw [this, if_pos hj]

/-! ### values as data -/
def tyName : PyData → String
  | .none => "NoneType" | .bool _ => "bool" | .int _ => "int" | .str _ => "str" | .list _ => "list" | .tuple _ => "tuple" | .dict _ => "dict"
theorem dp_ty {K : PySem.W.Frag} {H : Hp} {x : V} {d : PyData} (h : Dp K H x d) : TyX K H x (.type (tyName d)) := by
  cases h with
  | non => exact .base .non
  | bl b => exact .base (.bl b)
  | int i => exact .base (.int i)
  | str z => exact .base (.str z)
  | lst h1 _ =>
    rcases h1 with (h1 | ⟨o, h1⟩) | ⟨o, its, n, h1, h2, _⟩
    · exact .base (.lst h1)
    · exact .base (.frz h1)
    · exact .kList h1 h2
  | tup h1 _ =>
    rcases h1 with (h1 | ⟨o, h1⟩) | ⟨o, its, n, h1, h2, _⟩
    · exact .base (.tup h1)
    · exact .fTuple h1
    · exact .kTuple h1 h2
def dStr : PyData → Bool | .str _ => true | _ => false
def dInt : PyData → Bool | .int _ => true | .bool _ => true | _ => false
def dBool : PyData → Bool | .bool _ => true | _ => false
def dTup : PyData → Bool | .tuple _ => true | _ => false
def dList : PyData → Bool | .list _ => true | _ => false
theorem tyName_mem (d : PyData) : tyName d ∈ (["NoneType", "bool", "int", "str", "list", "tuple", "dict"] : List String) := by cases d <;> simp [tyName]
theorem kitN_str : ∀ n ∈ (["NoneType", "bool", "int", "str", "list", "tuple", "dict"] : List String), kitB n "str" = some (n == "str") := by decide +kernel
theorem kit_str {K : PySem.W.Frag} (d : PyData) : PySem.W.kitOne K (.type (tyName d)) (.type "str") = some (dStr d) := by
  refine kit_ty ((kitN_str _ (tyName_mem d)).trans ?_)
  cases d <;> simp [tyName, dStr]
theorem kitN_int : ∀ n ∈ (["NoneType", "bool", "int", "str", "list", "tuple", "dict"] : List String), kitB n "int" = some (n == "int" || n == "bool") := by decide +kernel
theorem kit_int {K : PySem.W.Frag} (d : PyData) : PySem.W.kitOne K (.type (tyName d)) (.type "int") = some (dInt d) := by
  refine kit_ty ((kitN_int _ (tyName_mem d)).trans ?_)
  cases d <;> simp [tyName, dInt]
theorem kitN_bool : ∀ n ∈ (["NoneType", "bool", "int", "str", "list", "tuple", "dict"] : List String), kitB n "bool" = some (n == "bool") := by decide +kernel
theorem kit_bool {K : PySem.W.Frag} (d : PyData) : PySem.W.kitOne K (.type (tyName d)) (.type "bool") = some (dBool d) := by
  refine kit_ty ((kitN_bool _ (tyName_mem d)).trans ?_)
  cases d <;> simp [tyName, dBool]
theorem kitN_tup : ∀ n ∈ (["NoneType", "bool", "int", "str", "list", "tuple", "dict"] : List String), kitB n "tuple" = some (n == "tuple") := by decide +kernel
theorem kit_tup {K : PySem.W.Frag} (d : PyData) : PySem.W.kitOne K (.type (tyName d)) (.type "tuple") = some (dTup d) := by
  refine kit_ty ((kitN_tup _ (tyName_mem d)).trans ?_)
  cases d <;> simp [tyName, dTup]
theorem kitN_list : ∀ n ∈ (["NoneType", "bool", "int", "str", "list", "tuple", "dict"] : List String), kitB n "list" = some (n == "list") := by decide +kernel
theorem kit_list {K : PySem.W.Frag} (d : PyData) : PySem.W.kitOne K (.type (tyName d)) (.type "list") = some (dList d) := by
  refine kit_ty ((kitN_list _ (tyName_mem d)).trans ?_)
  cases d <;> simp [tyName, dList]
/-- data stand where what was tracked stands -/
theorem rd_same {H H' : Hp} {a : Addr} {u : HO} (s : Same H H') (h : Rd H a u) : Rd H' a u := by
  rcases h with h | ⟨o, h⟩
  · exact .inl (s _ _ h)
  · exact .inr ⟨o, s _ _ h⟩
mutual
theorem dp_same {K : PySem.W.Frag} {H H' : Hp} (s : Same H H') : ∀ (d : PyData) (x : V), Dp K H x d → Dp K H' x d
  | .none, _, h => by cases h; exact .non
  | .bool _, _, h => by cases h; exact .bl _
  | .int _, _, h => by cases h; exact .int _
  | .str _, _, h => by cases h; exact .str _
  | .list ds, _, h => by
    cases h with
    | lst h1 h2 => exact .lst (h1.elim (fun z => .inl (rd_same s z)) .inr) (dpAll_same s ds _ h2)
  | .tuple ds, _, h => by
    cases h with
    | tup h1 h2 => exact .tup (h1.elim (fun z => .inl (rd_same s z)) .inr) (dpAll_same s ds _ h2)
  | .dict _, _, h => by cases h
theorem dpAll_same {K : PySem.W.Frag} {H H' : Hp} (s : Same H H') : ∀ (ds : List PyData) (xs : List V), DpAll K H xs ds → DpAll K H' xs ds
  | [], _, h => by cases h; exact .nil
  | d :: ds, _, h => by
    cases h with
    | cons h1 h2 => exact .cons (dp_same s d _ h1) (dpAll_same s ds _ h2)
end
/-- what may be shown -/
structure Shows (d : PyData) : Prop where
  ok : d.showable = true
  dp : d.depth ≤ 64
  sz : d.shown.length ≤ sizeLine
theorem shows_int {i : Int} (h : i.natAbs.log2 < 1920) : Shows (.int i) := ⟨decide_eq_true h, (by simp [PyData.depth]), int_text_fits h⟩
theorem log2_of {i : Int} {k : Nat} (h : i.natAbs < 2 ^ k) (hk : k ≤ 1920) (h0 : 0 < k) : i.natAbs.log2 < 1920 := by
  by_cases hz : i.natAbs = 0
  · rw [hz]; decide
  · exact Nat.lt_of_lt_of_le ((Nat.log2_lt hz).mpr h) hk
theorem eqv_of_ne : True := trivial

/-! ### standard words -/
def smallL : List Nat := [97, 98, 99, 100, 101, 102, 103, 104, 105, 106, 107, 108, 109, 110, 111, 112, 113, 114, 115, 116, 117, 118, 119, 120, 121, 122]
theorem smallS : (("abcdefghijklmnopqrstuvwxyz" : String) : Str) = S smallL := by decide +kernel
theorem small_at {k : Nat} (h : k < 26) : smallL[k]? = some (97 + k) := by
  have : ∀ j : Fin 26, smallL[j.val]? = some (97 + j.val) := by decide
  exact this ⟨k, h⟩
def stdL : Nat → List Nat
  | 0 => []
  | n + 1 => stdL n ++ [97 + n] ++ stdL n
theorem std_len : ∀ n, (stdL n).length + 1 = 2 ^ n
  | 0 => rfl
  | n + 1 => by
    have ih := std_len n
    rw [stdL, List.length_append, List.length_append, Nat.pow_succ]
    show (stdL n).length + 1 + (stdL n).length + 1 = _
    omega
/-- the exponent of 2 -/
def v2 (n : Nat) : Nat := if h : n = 0 ∨ n % 2 = 1 then 0 else v2 (n / 2) + 1
termination_by n
decreasing_by omega
theorem v2_odd {n : Nat} (h : n % 2 = 1) : v2 n = 0 := by
  rw [v2, dif_pos (.inr h)]
theorem v2_even {n : Nat} (h0 : 0 < n) (h : n % 2 = 0) : v2 n = v2 (n / 2) + 1 := by
  rw [v2, dif_neg (by omega)]
theorem v2_pow : ∀ k, v2 (2 ^ k) = k
  | 0 => v2_odd rfl
  | k + 1 => by
    have hp : 0 < 2 ^ (k + 1) := Nat.two_pow_pos _
    have e : 2 ^ (k + 1) / 2 = 2 ^ k := by rw [Nat.pow_succ]; omega
    rw [v2_even hp (by rw [Nat.pow_succ]; omega), e, v2_pow k]
theorem v2_sub : ∀ (k m : Nat), 2 ^ k < m → m < 2 ^ (k + 1) → v2 (m - 2 ^ k) = v2 m
  | 0, m, h1, h2 => by simp at h1 h2; omega
  | k + 1, m, h1, h2 => by
    rw [Nat.pow_succ] at h1 h2 ⊢
    rw [Nat.pow_succ] at h2
    by_cases ho : m % 2 = 1
    · rw [v2_odd ho, v2_odd (by omega)]
    · rw [v2_even (by omega) (show m % 2 = 0 by omega), v2_even (by omega) (by omega)]
      have e : (m - 2 ^ k * 2) / 2 = m / 2 - 2 ^ k := by omega
      rw [e, v2_sub k (m / 2) (by omega) (by rw [Nat.pow_succ]; omega)]
theorem v2_lt {k m : Nat} (h0 : 0 < m) (h : m < 2 ^ k) : v2 m < k := by
  induction k generalizing m with
  | zero => simp at h; omega
  | succ k ih =>
    by_cases ho : m % 2 = 1
    · rw [v2_odd ho]; omega
    · rw [v2_even h0 (by omega)]
      have := ih (m := m / 2) (by omega) (by rw [Nat.pow_succ] at h; omega)
      omega
theorem std_at : ∀ (n i : Nat), i + 1 < 2 ^ n → (stdL n)[i]? = some (97 + v2 (i + 1))
  | 0, i, h => by simp at h
  | n + 1, i, h => by
    have hl := std_len n
    rw [stdL]
    by_cases h1 : i + 1 < 2 ^ n
    · rw [List.getElem?_append_left (by rw [List.length_append]; show i < _ + 1; omega), List.getElem?_append_left (by omega)]
      exact std_at n i h1
    · by_cases h2 : i + 1 = 2 ^ n
      · rw [List.getElem?_append_left (by rw [List.length_append]; show i < _ + 1; omega), List.getElem?_append_right (by omega), show i - (stdL n).length = 0 by omega, h2, v2_pow]
        rfl
      · rw [List.getElem?_append_right (by rw [List.length_append]; show _ + 1 ≤ i; omega), List.length_append]
        show (stdL n)[i - ((stdL n).length + 1)]? = _
        rw [std_at n _ (by rw [Nat.pow_succ] at h; omega), ← v2_sub n (i + 1) (by omega) h]
        congr 3
        omega
theorem std_take {n m : Nat} (h : m + 1 ≤ 2 ^ n) : (stdL n).take m = (List.range m).map fun i => 97 + v2 (i + 1) := by
  refine List.ext_getElem? fun i => ?_
  rw [List.getElem?_take, List.getElem?_map]
  by_cases hi : i < m
  · rw [if_pos hi, std_at n i (by omega), List.getElem?_range hi]
    rfl
  · rw [if_neg hi, List.getElem?_eq_none (by rw [List.length_range]; omega)]
    rfl
/-- is it an integer of the range -/
def inRange (d : PyData) (lo hi : Int) : Bool := match d with
  | .int i => decide (lo ≤ i) && decide (i ≤ hi)
  | _ => false

/-! ### words and assignments as data -/
def strOf : PyData → List Nat | .str z => z.cps.toList | _ => []
theorem str_eta (z : Str) : S z.cps.toList = z := rfl
def patD (d : PyData) : Bool := dStr d && patB (strOf d)
def wordD (d : PyData) : Bool := dStr d && (decide ((strOf d).length ≤ 200) && allIn (strOf d) smallL)
def asgD (l : List Nat) : PyData → Bool
  | .tuple ds => decide (ds.length = (dist l).length) && ds.all fun d => wordD d && decide (strOf d ≠ [])
  | _ => false
def asgW : PyData → List (List Nat) | .tuple ds => ds.map strOf | _ => []
def valL (l : List Nat) (ws : List (List Nat)) : List Nat := (l.map fun c => ws[(dist l).idxOf c]?.getD []).flatten
/-! sizes -/
structure Lite (D k : Nat) (d : PyData) : Prop where
  c : d.canLay0 = true
  dp : d.depth ≤ D
  w : d.weight ≤ k
  s : d.leavesShort 70 = true
  sh : d.showable = true
theorem Lite.mono {D D' k k' : Nat} {d : PyData} (h : Lite D k d) (h1 : D ≤ D') (h2 : k ≤ k') : Lite D' k' d := ⟨h.c, Nat.le_trans h.dp h1, Nat.le_trans h.w h2, h.s, h.sh⟩
def liteB (D k : Nat) (d : PyData) : Bool := d.canLay0 && (decide (d.depth ≤ D) && (decide (d.weight ≤ k) && (d.leavesShort 70 && d.showable)))
theorem lite_of {D k : Nat} {d : PyData} (h : liteB D k d = true) : Lite D k d := by
  unfold liteB at h
  rw [Bool.and_eq_true, Bool.and_eq_true, Bool.and_eq_true, Bool.and_eq_true, decide_eq_true_eq, decide_eq_true_eq] at h
  exact ⟨h.1, h.2.1, h.2.2.1, h.2.2.2.1, h.2.2.2.2⟩
theorem Lite.shows {D k : Nat} {d : PyData} (h : Lite D k d) (h1 : D ≤ 64) (h2 : k ≤ 200000) : Shows d := by
  refine ⟨h.sh, Nat.le_trans h.dp h1, ?_⟩
  have e := PyData.shown_le 70 (by decide) d h.s
  have e2 : (70 + 2) * d.weight ≤ (70 + 2) * 200000 := Nat.mul_le_mul_left _ (Nat.le_trans h.w h2)
  rw [sizeLine_eq]
  omega
theorem Lite.len {D k : Nat} {z : Str} (h : Lite D k (.str z)) : z.cps.toList.length ≤ k := by
  have := h.w
  simp only [PyData.weight] at this
  simpa using this
theorem lite_str {D k : Nat} {l : List Nat} (hl : l.length ≤ k) (h : ∀ c ∈ l, c < 0x110000) : Lite D k (.str (S l)) := by
  refine ⟨?_, Nat.zero_le _, ?_, ?_, rfl⟩
  · simp only [PyData.canLay0, PyData.strOk]
    refine Array.all_eq_true_iff_forall_mem.mpr fun c hc => decide_eq_true (h c ?_)
    simpa [S] using hc
  · simp only [PyData.weight]
    simpa [S] using hl
  · simp only [PyData.leavesShort]
    refine List.all_eq_true.mpr fun c hc => decide_eq_true ?_
    have := h c (by simpa [S] using hc)
    have e : (16 : Nat) ^ 8 = 4294967296 := by decide
    omega
theorem liteAll {D k : Nat} : ∀ {ds : List PyData}, (∀ d ∈ ds, Lite D k d) → PyData.canLayAll0 ds = true ∧ PyData.depthAll ds ≤ D ∧ PyData.weightAll ds ≤ ds.length * (k + 1) ∧ PyData.leavesShortAll 70 ds = true ∧ PyData.showableAll ds = true
  | [], _ => ⟨rfl, Nat.zero_le _, Nat.zero_le _, rfl, rfl⟩
  | d :: r, h => by
    have h1 := h d List.mem_cons_self
    obtain ⟨a, b, c, e, f⟩ := liteAll fun x hx => h x (List.mem_cons_of_mem _ hx)
    refine ⟨?_, ?_, ?_, ?_, ?_⟩
    · simp only [PyData.canLayAll0, h1.c, a, Bool.and_self]
    · simp only [PyData.depthAll]
      exact Nat.max_le.mpr ⟨h1.dp, b⟩
    · simp only [PyData.weightAll, List.length_cons, Nat.succ_mul]
      have := h1.w
      omega
    · simp only [PyData.leavesShortAll, h1.s, e, Bool.and_self]
    · simp only [PyData.showableAll, h1.sh, f, Bool.and_self]
theorem lite_tup {D k m : Nat} {ds : List PyData} (h : ∀ d ∈ ds, Lite D k d) (hm : ds.length * (k + 1) ≤ m) : Lite (D + 1) m (.tuple ds) := by
  obtain ⟨a, b, c, e, f⟩ := liteAll h
  exact ⟨by simpa only [PyData.canLay0] using a, by simp only [PyData.depth]; omega, by simp only [PyData.weight]; omega, by simpa only [PyData.leavesShort] using e, by simpa only [PyData.showable] using f⟩
theorem lite_lst {D k m : Nat} {ds : List PyData} (h : ∀ d ∈ ds, Lite D k d) (hm : ds.length * (k + 1) ≤ m) : Lite (D + 1) m (.list ds) := by
  obtain ⟨a, b, c, e, f⟩ := liteAll h
  exact ⟨by simpa only [PyData.canLay0] using a, by simp only [PyData.depth]; omega, by simp only [PyData.weight]; omega, by simpa only [PyData.leavesShort] using e, by simpa only [PyData.showable] using f⟩
/-! data and heaps -/
/-- the heap without what stands at p -/
def off (p : Addr) (H : Hp) : Hp := fun b => if b = p then none else H b
theorem off_same (p : Addr) (H : Hp) : Same (off p H) H := fun b o h => by
  unfold off at h
  by_cases e : b = p
  · rw [if_pos e] at h; cases h
  · rw [if_neg e] at h; exact h
theorem But.off {p : Addr} {H H' : Hp} (h : But p H H') : Same (off p H) (off p H') := fun b o e => by
  unfold Lw.off at e ⊢
  by_cases q : b = p
  · rw [if_pos q] at e; cases e
  · rw [if_neg q] at e ⊢; exact h b o q e
theorem off_at {p b : Addr} {H : Hp} {o : HO} (n : b ≠ p) (h : H b = some o) : off p H b = some o := by
  unfold off
  rw [if_neg n]
  exact h
theorem dpAll_len {K : PySem.W.Frag} {H : Hp} : ∀ {xs : List V} {ds : List PyData}, DpAll K H xs ds → xs.length = ds.length
  | _, _, .nil => rfl
  | _, _, .cons _ r => by rw [List.length_cons, List.length_cons, dpAll_len r]
theorem dpAll_at {K : PySem.W.Frag} {H : Hp} : ∀ {xs : List V} {ds : List PyData} (_ : DpAll K H xs ds) {i : Nat} {x : V}, xs[i]? = some x → ∃ d, ds[i]? = some d ∧ Dp K H x d
  | _, _, .cons h _, 0, x, e => ⟨_, rfl, by cases e; exact h⟩
  | _, _, .cons _ r, i + 1, x, e => dpAll_at r (i := i) e
theorem dpAll_app {K : PySem.W.Frag} {H : Hp} : ∀ {xs ys : List V} {ds es : List PyData}, DpAll K H xs ds → DpAll K H ys es → DpAll K H (xs ++ ys) (ds ++ es)
  | _, _, _, _, .nil, h => h
  | _, _, _, _, .cons a r, h => .cons a (dpAll_app r h)
def vW (w : List Nat) : V := .str (S w)
def dW (w : List Nat) : PyData := .str (S w)
theorem dpAll_words {K : PySem.W.Frag} {H : Hp} : ∀ ws : List (List Nat), DpAll K H (ws.map vW) (ws.map dW)
  | [] => .nil
  | w :: r => .cons (.str _) (dpAll_words r)
def dataW (ws : List (List Nat)) : PyData := .tuple (ws.map dW)
theorem dp_words {K : PySem.W.Frag} {H : Hp} {a : Addr} {ws : List (List Nat)} (h : SqT K H a (ws.map vW)) : Dp K H (.ref a) (dataW ws) := .tup h (dpAll_words ws)
theorem strOf_dW (w : List Nat) : strOf (dW w) = w := rfl
theorem asgW_dataW (ws : List (List Nat)) : asgW (dataW ws) = ws := by
  show (ws.map dW).map strOf = ws
  rw [List.map_map]
  exact List.map_id' ws
/-- where all are texts -/
theorem dpAll_strs {K : PySem.W.Frag} {H : Hp} : ∀ {xs : List V} {ds : List PyData}, DpAll K H xs ds → (∀ d ∈ ds, dStr d = true) → xs = (ds.map strOf).map vW
  | _, _, .nil, _ => rfl
  | _, _, .cons (d := d) h r, hs => by
    have h1 := hs d List.mem_cons_self
    rw [List.map_cons, List.map_cons, ← dpAll_strs r fun x hx => hs x (List.mem_cons_of_mem _ hx)]
    cases h with
    | str z => rfl
    | non => cases h1
    | bl b => cases h1
    | int i => cases h1
    | lst _ _ => cases h1
    | tup _ _ => cases h1
/-! words -/
structure Wd (w : List Nat) : Prop where
  hi : w.length ≤ 200
  sm : ∀ c ∈ w, c ∈ smallL
theorem small_lt {c : Nat} (h : c ∈ smallL) : c < 0x110000 := by
  have : ∀ c ∈ smallL, c < 0x110000 := by decide
  exact this c h
theorem cap_lt {c : Nat} (h : c ∈ capL) : c < 0x110000 := by
  have : ∀ c ∈ capL, c < 0x110000 := by decide
  exact this c h
theorem wordD_dW {w : List Nat} : wordD (dW w) = true ↔ Wd w := by
  unfold wordD
  rw [Bool.and_eq_true, Bool.and_eq_true, decide_eq_true_eq, allIn_iff]
  exact ⟨fun h => ⟨h.2.1, h.2.2⟩, fun h => ⟨rfl, h.hi, h.sm⟩⟩
theorem asg_good {l : List Nat} {ws : List (List Nat)} (hn : ws.length = (dist l).length) (h : ∀ w ∈ ws, Wd w ∧ w ≠ []) : asgD l (dataW ws) = true := by
  show (decide ((ws.map dW).length = _) && (ws.map dW).all _) = true
  rw [Bool.and_eq_true, decide_eq_true_eq, List.length_map, List.all_eq_true]
  refine ⟨hn, fun d hd => ?_⟩
  obtain ⟨w, hw, rfl⟩ := List.mem_map.mp hd
  rw [Bool.and_eq_true, decide_eq_true_eq]
  exact ⟨wordD_dW.mpr (h w hw).1, (h w hw).2⟩
/-! slices and sums of tuples -/
theorem cutL_whole {α : Type} {xs : List α} {lo hi : Option Int} (h : HT.sIx xs.length 0 lo = 0 ∧ HT.sIx xs.length xs.length hi = xs.length) : cutL xs lo hi = xs := by
  unfold cutL
  rw [h.1, h.2, List.drop_zero, Nat.sub_zero, List.take_length]
theorem slA_use {K : PySem.W.Frag} {a : Addr} {xs : List V} {lo hi : Option Int} {H : Hp} {Q : VK} (h : SqT K H a xs) (q : ∀ b H', Same H H' → SqT K H' b (cutL xs lo hi) → Q (.ref b) H') : rSlA K (.ref a) lo hi H Q :=
  ⟨a, xs, rfl, h, fun w => q a H (Same.refl H) (by rw [cutL_whole w]; exact h), fun _ p hp => q p _ (Same.new hp) (by rw [cutV_L]; exact SqT.of upd_same)⟩
theorem catA_use {K : PySem.W.Frag} {a b : Addr} {xs ys : List V} {H : Hp} {Q : VK} (ha : SqT K H a xs) (hb : SqT K H b ys) (hz : xs.length + ys.length ≤ sizeLine) (q : ∀ c H', Same H H' → SqT K H' c (xs ++ ys) → Q (.ref c) H') :
    rCatA K (.ref a) (.ref b) H Q :=
  ⟨a, b, xs, ys, rfl, rfl, ha, hb, hz, fun e => q b H (Same.refl H) (by rw [e]; exact hb), fun _ e => q a H (Same.refl H) (by rw [e, List.append_nil]; exact ha), fun _ _ p hp => q p _ (Same.new hp) (SqT.of upd_same)⟩
theorem same_tup {K : PySem.W.Frag} {H H' : Hp} {a : Addr} {xs : List V} (s : Same H H') (h : SqT K H a xs) : SqT K H' a xs := h.elim (fun z => .inl (rd_same s z)) .inr
theorem same_lst {K : PySem.W.Frag} {H H' : Hp} {a : Addr} {xs : List V} (s : Same H H') (h : SqL K H a xs) : SqL K H' a xs := h.elim (fun z => .inl (rd_same s z)) .inr
theorem cutL_neg1 {α : Type} (xs : List α) : cutL xs none (some (-1)) = xs.take (xs.length - 1) := by
  have e : HT.sIx xs.length xs.length (some (-1)) = xs.length - 1 := by
    show (if (-1 : Int) < 0 then ((-1 : Int) + (xs.length : Int)).toNat else min (-1 : Int).toNat xs.length) = _
    rw [if_pos (by decide)]
    omega
  unfold cutL
  rw [HT.sIx_none, List.drop_zero, Nat.sub_zero, e]
theorem offT {K : PySem.W.Frag} {H : Hp} {p b : Addr} {xs ys : List V} (h : SqT K H b xs) (hp : H p = some (.lst ys)) : SqT K (off p H) b xs := by
  rcases h with (h | ⟨o, h⟩) | h
  · exact .inl (.inl (off_at (ne_of h hp fun e => by cases e) h))
  · exact .inl (.inr ⟨o, off_at (ne_of h hp fun e => by cases e) h⟩)
  · exact .inr h
theorem Pen.offT {K : PySem.W.Frag} {H : Hp} {p c b : Addr} {n : Nat} {xs : List V} (P : Pen H p c n) (h : SqT K H b xs) : SqT K (off p H) b xs := by
  obtain ⟨ns, i, z, ⟨a1, _⟩, _⟩ := P
  exact Lw.offT h a1
/-- not the data of an assignment of n words -/
def noAsg (n : Nat) : PyData → Bool
  | .tuple ds => !(decide (ds.length = n) && ds.all fun d => wordD d && decide (strOf d ≠ []))
  | _ => true
theorem asg_no {l : List Nat} {d : PyData} (h : noAsg (dist l).length d = true) : asgD l d = false := by
  cases d with
  | tuple ds =>
    have h : (!(decide (ds.length = (dist l).length) && ds.all fun d => wordD d && decide (strOf d ≠ []))) = true := h
    show (decide (ds.length = (dist l).length) && ds.all fun d => wordD d && decide (strOf d ≠ [])) = false
    generalize (decide (ds.length = (dist l).length) && ds.all fun d => wordD d && decide (strOf d ≠ [])) = b at h
    cases b with
    | false => rfl
    | true => cases h
  | _ => rfl
theorem noAsg_len {n : Nat} {ds : List PyData} (h : ds.length ≠ n) : noAsg n (.tuple ds) = true := by
  show (!(decide (ds.length = n) && _)) = true
  rw [decide_eq_false h, Bool.false_and]
  rfl
theorem noAsg_bad {n : Nat} {ds : List PyData} {d : PyData} (hd : d ∈ ds) (h : (wordD d && decide (strOf d ≠ [])) = false) : noAsg n (.tuple ds) = true := by
  show (!(decide (ds.length = n) && ds.all fun d => wordD d && decide (strOf d ≠ []))) = true
  have : (ds.all fun d => wordD d && decide (strOf d ≠ [])) = false := by
    cases q : ds.all fun d => wordD d && decide (strOf d ≠ []) with
    | false => rfl
    | true => rw [List.all_eq_true.mp q d hd] at h; cases h
  rw [this, Bool.and_false]
  rfl
theorem lite_dW {D k : Nat} {w : List Nat} (h : Wd w) (hk : w.length ≤ k) : Lite D k (dW w) := lite_str hk fun c hc => small_lt (h.sm c hc)

/-! ### set(text): its letters, by membership and number -/
def setB (l : List Nat) : Key → Bool := fun k => l.any fun c => decide (k = Sum.inr (S [c]))
theorem setB_at {l : List Nat} {c : Nat} : setB l (Sum.inr (S [c])) = true ↔ c ∈ l := by
  unfold setB
  rw [List.any_eq_true]
  constructor
  · rintro ⟨d, hd, e⟩
    have := SX.S_inj (Sum.inr.inj (of_decide_eq_true e))
    rw [List.cons.injEq] at this
    rw [this.1]; exact hd
  · exact fun h => ⟨c, h, decide_eq_true rfl⟩
/-- the set's letters after one more -/
theorem setB_snoc (l : List Nat) (c : Nat) (k : Key) : (setB l k || decide (k = Sum.inr (S [c]))) = setB (l ++ [c]) k := by
  unfold setB
  rw [List.any_append]
  congr 1
  rw [List.any_cons, List.any_nil, Bool.or_false]
theorem setN_snoc (l : List Nat) (c : Nat) : (if setB l (Sum.inr (S [c])) = true then (dist l).length else (dist l).length + 1) = (dist (l ++ [c])).length := by
  rw [dist_snoc]
  by_cases h : c ∈ l
  · rw [if_pos (setB_at.mpr h), if_pos (mem_dist.mpr h)]
  · rw [if_neg (fun z => h (setB_at.mp z)), if_neg (fun z => h (mem_dist.mp z)), List.length_append]
    rfl
section
variable {P : Program} {w : World} {A : Around}
theorem setstr_loop {R : Result → Shared → Prop} {I D : Addr} {fp wr : List Addr} {G : Array GenState → Array GenState → Prop} {St : Nat → Shared → Prop} {l : List Nat}
    (W : WalksS P w A.in1 I fp wr G l.length (SignAt (S l)) St) (hD : D ∉ fp) (hl : l.length ≤ 4000) : ∀ (m i : Nat) (s : Shared), l.length - i = m → i ≤ l.length → St i s → s.heap.SetOf (mixKind P w) D (setB (l.take i)) (dist (l.take i)).length →
      (∀ s1, Moved (D :: wr) G s s1 → s1.heap.SetOf (mixKind P w) D (setB l) (dist l).length → R (.ok (.ret .none)) s1) →
      codeAny (model P w) A (.builtin "set.update.loop" ⟨[.ref D, .ref I], []⟩) R s := by
  have nD : D ∉ wr := fun z => hD (W.sub _ z)
  have more : ∀ b ∈ wr, b ∈ D :: wr := fun b z => List.mem_cons_of_mem _ z
  have carry : ∀ {s s1 : Shared} {B : Key → Bool} {n : Nat}, Moved wr G s s1 → s.heap.SetOf (mixKind P w) D B n → s1.heap.SetOf (mixKind P w) D B n := fun mv hs => setOf_at hs fun o e => mv.heap D o nD e
  intro m
  induction m with
  | zero =>
    intro i s hm hi st hs fin
    obtain rfl : i = l.length := by omega
    rw [List.take_length] at hs
    refine codeAny_builtin PyProof.Rows.F.entry_set_update_loop ?_
    rw [Around.under_plainId PyProof.Rows.F.plain_set_update_loop _]
    change wpAny _ A.in1 (pyNext (.ref I) >>= _) _ _ s
    exact wpAny_bind (W.done s _ _ st fun s1 mv => wpAny_pure (fin s1 (mv.mono more) (carry mv hs)))
  | succ m ih =>
    intro i s hm hi st hs fin
    have lt : i < l.length := by omega
    refine codeAny_builtin PyProof.Rows.F.entry_set_update_loop ?_
    rw [Around.under_plainId PyProof.Rows.F.plain_set_update_loop _]
    change wpAny _ A.in1 (pyNext (.ref I) >>= _) _ _ s
    refine wpAny_bind (W.item i s _ _ lt st fun v s1 hv st1 mv => ?_)
    obtain ⟨c, u, hc, rfl⟩ := hv
    have hc : l[i]? = some c := by rw [← hc]; simp [S]
    have hk : (mixKind P w).is (Sum.inr (S [c])) (.str ⟨#[c]⟩ u) = true := mixKind_str P w (S [c]) u
    change wpAny _ A.in1 (holding [Value.str ⟨#[c]⟩ u] (setAdd D (.str ⟨#[c]⟩ u)) >>= _) _ _ s1
    refine wpAny_bind (wpAny_holding ?_)
    unfold setAdd
    refine wpAny_holding (wpAny_bind ((mixKind P w).pyHash (k := Sum.inr (S [c])) hk ?_))
    have room : (dist (l.take i)).length + 1 < scanBound := by
      have := dist_len (l.take i)
      rw [List.length_take] at this
      unfold scanBound
      omega
    have tk : l.take (i + 1) = l.take i ++ [c] := by rw [List.take_add_one, hc]; rfl
    have hc1 := carry mv hs
    refine wpAny_setAddHashed_of (knd := mixKind P w) (k := Sum.inr (S [c])) (s := { s1 with toks := s1.toks + 1 }) hk rfl hc1 room fun h1 sb hs1 => ?_
    have hs2 : h1.SetOf (mixKind P w) D (setB (l.take (i + 1))) (dist (l.take (i + 1))).length := by
      have e1 := funext (setB_snoc (l.take i) c)
      rw [tk, ← setN_snoc, ← e1]
      exact hs1
    refine wpAny_pure ⟨plainId_quiet PyProof.Rows.F.plain_set_update_loop _, ih (i + 1) _ (by omega) lt (W.frame _ s1 _ _ st1 (Nat.le_succ _) fun b hb o e => ?_) hs2 fun s2 mv2 hs3 => ?_⟩
    · exact (sb.2 b fun z => hD (z ▸ hb)).trans e
    · exact fin s2 (Moved.trans W.gtrans ((mv.mono more).then_heap (Nat.le_succ _) fun b o hb e => (sb.2 b fun z => hb (z ▸ List.mem_cons_self)).trans e) mv2) hs3
end
section
variable {P : Program} {w : World} {A : Around} {E : Value → Shared → Prop} {s : Shared}
theorem sub_str_set : isSubtype (.type "str") (.type "set") = pure false := by rw [isSubtype_type]; kernel_rfl
theorem sub_str_frozenset : isSubtype (.type "str") (.type "frozenset") = pure false := by rw [isSubtype_type]; kernel_rfl
def freshSet (led : Bool) : Obj := { cls := .type "set", dict := none, data := .set #[] 0 (.fresh 0 0 led) }
set_option maxHeartbeats 3200000 in
theorem setstr_call {l : List Nat} {t : Tok} {Q : Value → Shared → Prop} (hh : A.handled = none) (hl : l.length ≤ 4000)
    (q : ∀ (h1 : Heap) (tk : Nat), h1.SetOf (mixKind P w) s.heap.objs.size (setB l) (dist l).length → (∀ b o, b < s.heap.objs.size → s.heap.get? b = some o → h1.get? b = some o) → Q (.ref s.heap.objs.size) { s with heap := h1, toks := tk }) :
    wpAny (model P w) A (call (.type "set") [.str (S l) t]) Q E s := by
  obtain ⟨c, tl, hmro⟩ := PySem.F.called_set.mro
  have hmade := PySem.F.called_set.made
  have hsub := PySem.F.called_set.sub
  refine wpAny_call (codeAny_of_tree ?_)
  change wpAny _ _ (callAny (.type "set") _) _ _ _
  refine wpAny_pure ⟨Code.quiet_builtin _ (by decide +kernel), codeAny_builtin PySem.F.entry_type_call ?_⟩
  rw [Around.under_plain (weight_type_call_type "set" [.str (S l) t] []) rfl]
  have h1 := PySem.F.called_set.notType
  have h2 := PySem.F.called_set.canCreate
  have hct := PySem.F.typeCall_set_1 (.str (S l) t)
  repeat (any_goals (first | assumption | wp_step))
  refine codeAny_mono (code_set_new_1 (.str (S l) t) (E := E) (Q₁ := fun obj s1 => ∃ led : Bool, obj = .ref s.heap.objs.size ∧ s1 = { s with heap := s.heap.push (freshSet led) }) fun led => ⟨led, rfl, rfl⟩) fun r s1 hr => ?_
  match r, hr with
  | .error e, hr => exact hr
  | .ok .next, hr => exact hr.elim
  | .ok .brk, hr => exact hr.elim
  | .ok .cont, hr => exact hr.elim
  | .ok (.ret obj), hr =>
    obtain ⟨led, rfl, rfl⟩ := hr
    have hS : (s.heap.push (freshSet led)).get? s.heap.objs.size = some (freshSet led) := Heap.get?_push_size _ rfl
    have hT : Shared.TypeIs { s with heap := s.heap.push (freshSet led) } (.ref s.heap.objs.size) "set" := ⟨_, hS, rfl⟩
    have hli := PySem.F.called_set.init.lookup
    have hbi := PySem.F.called_set.init.bind (.ref s.heap.objs.size)
    repeat (any_goals (first | assumption | wp_step))
    refine codeAny_mono (codeAny_call_builtin (R := wants (fun r s2 => r = .none ∧ ∃ h1 tk, s2 = { s with heap := h1, toks := tk } ∧ h1.SetOf (mixKind P w) s.heap.objs.size (setB l) (dist l).length ∧
      (∀ b o, b < s.heap.objs.size → s.heap.get? b = some o → h1.get? b = some o)) E) PySem.F.called_set.init.plain PySem.F.entry_set_init (check_set_init_1 hT ?_)) fun r2 s2 hr2 => ?_
    · have k1 := sub_str_set
      have k2 := sub_str_frozenset
      have k3 : (Value.type "str" == Value.type "dict") = false := by decide
      unfold Builtin.«set.__init__» noKeywords Builtin.Frozenset.updateFrom
      generalize hPI : pyIter = PI
      wp_walk
      subst hPI
      refine wpAny_pyIter_str fun o St W st0 => ?_
      refine wpAny_bind (wpAny_runValue ?_)
      have W2 := (W A.in1.in1.in1 (by simp [hh])).toS
      have hn : (S l).cps.size = l.length := by simp [S]
      rw [hn] at W2
      refine setstr_loop W2 ?nD hl (l.length - 0) 0 _ (by omega) (Nat.zero_le _) st0 ?S0 ?fin
      case nD =>
        rw [Heap.size_push, List.mem_singleton]
        exact Nat.ne_of_lt (Nat.lt_succ_self _)
      case S0 =>
        have e : ((s.heap.push (freshSet led)).push o).get? s.heap.objs.size = some (freshSet led) := Heap.get?_push_of_some _ hS
        exact ⟨_, #[], 0, _, e, ⟨rfl, rfl, rfl⟩, rfl, (fun e he => by simp at he), (fun k => by simp [setB]), (by decide), (by rfl), rfl⟩
      case fin =>
        intro s2 mv hs2
        have eg := mv.gens; have ed := mv.drawn; have eo := mv.os
        obtain ⟨h2, g2, d2, tk2, os2⟩ := s2
        obtain rfl : g2 = s.gens := eg
        obtain rfl : d2 = s.drawn := ed
        obtain rfl : os2 = s.os := eo
        refine wpAny_pure (wpAny_pure ⟨rfl, h2, tk2, rfl, hs2, fun b u hb e => ?_⟩)
        refine mv.heap b u (fun z => ?_) (Heap.get?_push_of_some _ (Heap.get?_push_of_some _ e))
        rcases List.mem_cons.mp z with z | z
        · exact absurd z (Nat.ne_of_lt hb)
        · exact absurd (List.mem_singleton.mp z) (by rw [Heap.size_push]; exact Nat.ne_of_lt (Nat.lt_succ_of_lt hb))
    · match r2, hr2 with
      | .error e, hr2 => exact hr2
      | .ok .next, hr2 => exact hr2.elim
      | .ok .brk, hr2 => exact hr2.elim
      | .ok .cont, hr2 => exact hr2.elim
      | .ok (.ret r), hr2 =>
        obtain ⟨rfl, h1, tk, rfl, a1, a2⟩ := hr2
        repeat (any_goals (first | assumption | wp_step))
        exact q _ _ a1 a2
end
/-! ### the rules -/
section
variable {X : Cx} {a : Expr} {ta : TE} {p p2 q pos : Pos}
/-- len(set(text)) -/
def tLenSetS (ta : TE) : TE := fun σ H Q => ta σ H fun x H1 => ∃ l : List Nat, x = .str (S l) ∧ l.length ≤ 4000 ∧ Q (.int ((dist l).length : Nat)) H1
theorem pe_lenSetS (hc : X.calm = true) (g1 : Gl X "len") (m1 : X.mg "len" = none) (g2 : Gl X "set") (m2 : X.mg "set" = none) (ha : PE X a ta) (na : starEach [a] X.env = (false, eval a X.env) :: starEach [] X.env := by rfl) :
    PE X (.Call (.Name "len" p) [.Call (.Name "set" p2) [a] [] q] [] pos) (tLenSetS ta) := by
  constructor
  intro pins s σ H Q I h
  refine Call_ (ld_blt I g1 m1 boot_len (PyProof.Rows.callWith_builtin1 (PyProof.Rows.args_cons ?_ rfl) rfl rfl))
  refine Call_ (ld_blt I g2 m2 boot_set (PyProof.Rows.callWith_type1 (PyProof.Rows.args_cons (thn (ha.run pins s σ H _ I h) fun v s1 ⟨x, H1, I1, r1, q1⟩ => PyProof.Rows.args_nil ?_) na) na rfl))
  obtain ⟨l, rfl, hl, q1⟩ := q1
  obtain ⟨t, rfl⟩ := r1
  refine setstr_call (I1.ok.hd hc) hl fun h1 tk hs keep => PyProof.Rows.args_nil ?_
  obtain ⟨o, es, ep, tb, ho, hex, hd, _, _, _, hf, hn⟩ := hs
  have I2 : Inv X pins σ H1 { s1 with heap := h1, toks := tk } := I1.kept fun b u e => keep b u (Heap.lt_size e) e
  have hdl := dist_len l
  exact call_len_set ho hex hd hf (by rw [hn]; omega) ⟨.int ((dist l).length : Nat), H1, I2.tok _, ⟨_, by rw [hn]⟩, q1⟩
end
/-- list(text) -/
def rListS : List V → Hp → VK → Prop := fun xs H Q => ∃ l : List Nat, xs = [.str (S l)] ∧ l.length ≤ 100000 ∧ ∀ p, H p = none → Q (.ref p) (upd H p (.lst (l.map fun c => V.str (S [c]))))
theorem cr_listS {X : Cx} (hc : X.calm = true) : CallR X (.type "list") rListS := by
  intro pins s σ H xs us Q I r h
  obtain ⟨l, rfl, hl, q⟩ := h
  obtain ⟨u, rfl, rx⟩ := vals1 r
  obtain ⟨t, rfl⟩ := rx
  have hz : (S l).cps.size = l.length := by simp [S]
  refine call_list_str (I.ok.hd hc) (S l) t (fun h1 tk acc c1 keep at1 items => ?_) (by rw [hz, sizeLine_eq]; omega)
  have ok : Vals (l.map fun c => V.str (S [c])) acc.toList := by
    have el : acc.toList.length = acc.size := by simp
    refine vals_of_at (by rw [List.length_map, el, items.1, hz]) fun j x w e1 e2 => ?_
    obtain ⟨c, u, hc1, rfl⟩ := items.2 j w (by rw [← Array.getElem?_toList]; exact e2)
    have hc2 : l[j]? = some c := by rw [← hc1]; simp [S]
    rw [List.getElem?_map, hc2] at e1
    obtain rfl := Option.some.inj e1
    exact ⟨u, rfl⟩
  exact ⟨.ref s.heap.objs.size, upd H s.heap.objs.size (.lst (l.map fun c => V.str (S [c]))), I.laid keep (Nat.le_refl _) (show ObjOk X.prog X.w _ _ _ (.lst (l.map fun c => V.str (S [c]))) from
    ⟨by rw [List.length_map, sizeLine_eq]; omega, acc.toList, c1, ok, at1⟩), rfl, q _ (I.hok.fresh (Nat.le_refl _))⟩

/-! ### sets of texts and numbers that can be walked: what stands in them, and how the table stands -/
def SetW (P : Program) (w : World) (h : Heap) (a : Addr) (B : Key → Bool) (n : Nat) : Prop :=
  ∃ o es ep t, h.get? a = some o ∧ o.ExactSet ∧ o.data = .set es ep t ∧ ElemsOf (mixKind P w) es.toList ∧ (∀ k, B k = true ↔ ∃ e ∈ es.toList, (mixKind P w).is k e.2 = true) ∧
    (es.size < scanBound ∧ t.fits es.size = true ∧ es.size = n) ∧ Ris t.place.toList ∧ (w.params.followText "set-order" = true ∨ t.led = true)
theorem SetW.at {P : Program} {w : World} {h h' : Heap} {a : Addr} {B : Key → Bool} {n : Nat} (R : SetW P w h a B n) (k : ∀ o, h.get? a = some o → h'.get? a = some o) : SetW P w h' a B n := by
  obtain ⟨o, es, ep, t, ho, r⟩ := R
  exact ⟨o, es, ep, t, k o ho, r⟩
theorem SetW.old {P : Program} {w : World} {h : Heap} {a : Addr} {B : Key → Bool} {n : Nat} (R : SetW P w h a B n) : h.SetOf (mixKind P w) a B n := by
  obtain ⟨o, es, ep, t, ho, hx, hd, el, hm, ⟨b1, b2, b3⟩, _⟩ := R
  exact ⟨o, es, ep, t, ho, hx, hd, el, hm, b1, b2, b3⟩
section
variable {P : Program} {w : World} {A : Around} {E : Value → Shared → Prop} {s : Shared} {a : Addr} {B : Key → Bool} {n : Nat}
theorem setW_tail {g : Bool → Sem Unit} (hg : ∀ (b : Bool) (s1 : Shared) (Q1 : Unit → Shared → Prop), Q1 () s1 → wpAny (model P w) A (g b) Q1 E s1) {o : Obj} {es : Array (Int × Value)} {ep : Nat} {t : SetTable}
    (ho : s.heap.get? a = some o) (hx : o.ExactSet) (hd : o.data = .set es ep t) {fs : Array (Int × Value)} {u : SetTable} {C : Key → Bool} (el : ElemsOf (mixKind P w) fs.toList)
    (mm : ∀ k, C k = true ↔ ∃ e ∈ fs.toList, (mixKind P w).is k e.2 = true) (bb : fs.size < scanBound) (ff : u.fits fs.size = true) (rr : Ris u.place.toList) (ll : w.params.followText "set-order" = true ∨ u.led = true)
    {dm : Bool} {R : Option Bool → Shared → Prop} (hR : ∀ h1, Heap.SameBut a s.heap h1 → SetW P w h1 a C fs.size → R (some true) { s with heap := h1 }) :
    wpAny (model P w) A (storeSet a fs u >>= fun _ => if (!dm && u.tooFull) = true then (g (relayAll u fs (SetTable.grown fs.size)).2.2 >>= fun _ =>
      storeSet a (relayAll u fs (SetTable.grown fs.size)).1 (relayAll u fs (SetTable.grown fs.size)).2.1 >>= fun _ => pure (some true)) else pure (some true)) R E s := by
  refine wpAny_bind (wpAny_storeSet_of ho hd (show _ from ?st) (fits_of_scanBound bb))
  case st =>
    have o1 := store_at (es' := fs) (t' := u) ho hd
    have z1 := Heap.SameBut.update s.heap a (Obj.putSet fs u)
    split
    · have pm := relayAll_perm u fs (SetTable.grown fs.size); have f3 := relayAll_fits u fs (SetTable.grown fs.size)
      have r3 := relayAll_ris u fs (SetTable.grown fs.size); have l3 := relayAll_led u fs (SetTable.grown fs.size)
      generalize relayAll u fs (SetTable.grown fs.size) = Z at pm f3 r3 l3 ⊢
      obtain ⟨gs, v, gave⟩ := Z
      dsimp only at pm f3 r3 l3 ⊢
      have sz : gs.size = fs.size := by rw [← Array.length_toList, pm.length_eq, Array.length_toList]
      refine wpAny_bind (hg _ _ _ (wpAny_bind (wpAny_storeSet_of o1 rfl (show _ from ?st2) (fits_of_scanBound (by rw [sz]; exact bb)))))
      case st2 =>
        have o2 := store_at (es' := gs) (t' := v) o1 rfl
        refine wpAny_pure (hR _ (z1.trans (Heap.SameBut.update _ a _)) ⟨_, gs, _, v, o2, hx, rfl, el.perm pm, fun k => (mm k).trans ⟨fun ⟨e, he, q⟩ => ⟨e, pm.mem_iff.mpr he, q⟩, fun ⟨e, he, q⟩ => ⟨e, pm.mem_iff.mp he, q⟩⟩, ⟨by rw [sz]; exact bb, f3, sz⟩, r3, ?_⟩)
        rw [l3]; exact ll
    · exact wpAny_pure (hR _ z1 ⟨_, fs, _, u, o1, hx, rfl, el, mm, ⟨bb, ff, rfl⟩, rr, ll⟩)
theorem setW_add {k : Key} {x : Value} {Q : Bool → Shared → Prop} (hk : (mixKind P w).is k x = true) (hs : x.scannable = true) (R : SetW P w s.heap a B n) (room : n + 1 < scanBound)
    (hQ : ∀ h1, Heap.SameBut a s.heap h1 → SetW P w h1 a (fun j => B j || decide (j = k)) (if B k = true then n else n + 1) → Q (!B k) { s with heap := h1 }) :
    wpAny (model P w) A (setAddHashed a x ((mixKind P w).hash k)) Q E s := by
  obtain ⟨o, es, ep, t, ho, hx, hd, el, hm, ⟨b1, b2, b3⟩, hr, hl⟩ := R
  unfold setAddHashed setAddHashedIn
  refine wpAny_holding (wpAny_bind (wpAny_setState_of ho hd b2 (show _ from ?s0)))
  case s0 =>
    dsimp only; rw [byScan_of hs b1 el]; simp only [↓reduceIte]; unfold setAddByScan
    refine wpAny_bind (wpAny_bind (wpAny_rule (wpAny_bind (wpAny_setScan_of hk ho hd b2 el (show _ from ?s1)))))
    case s1 =>
      cases hf : List.findIdx? (fun e => (mixKind P w).is k e.2) es.toList with
      | some j =>
        dsimp only
        obtain ⟨hj, pj, _⟩ := List.findIdx?_eq_some_iff_getElem.mp hf
        have hB : B k = true := (hm k).mpr ⟨es.toList[j], List.getElem_mem hj, pj⟩
        have q := hQ s.heap (Heap.SameBut.refl a s.heap) ⟨o, es, ep, t, ho, hx, hd, el, fun i => by rw [Bool.or_eq_true, decide_eq_true_eq, ← hm i]; exact ⟨fun z => z.elim id fun e => e ▸ hB, .inl⟩, ⟨b1, b2, by rw [if_pos hB]; exact b3⟩, hr, hl⟩
        rw [hB] at q
        exact wpAny_pure (wpAny_pure q)
      | none =>
        dsimp only
        have hB : B k = false := by
          cases q : B k with
          | false => rfl
          | true =>
            obtain ⟨e, he, p⟩ := (hm k).mp q
            have c := List.findIdx?_eq_none_iff.mp hf e he
            rw [p] at c; cases c
        have pm := layNew_perm t es ((mixKind P w).hash k) x; have f1 := layNew_fits t es ((mixKind P w).hash k) x
        have r1 := layNew_ris t es ((mixKind P w).hash k) x hr; have l1 := layNew_led t es ((mixKind P w).hash k) x
        generalize layNew t es ((mixKind P w).hash k) x = Z at pm f1 r1 l1 ⊢
        obtain ⟨fs, u, dm, gave⟩ := Z
        dsimp only at pm f1 r1 l1 ⊢; rw [Array.toList_push] at pm
        have el1 : ElemsOf (mixKind P w) fs.toList := (el.push hk hs).perm pm
        have mm1 : ∀ j, (B j || decide (j = k)) = true ↔ ∃ e ∈ fs.toList, (mixKind P w).is j e.2 = true := mem_push_iff hk hm pm
        have sz : fs.size = n + 1 := by rw [← Array.length_toList, pm.length_eq, List.length_append, Array.length_toList, b3]; rfl
        have bb : fs.size < scanBound := by rw [sz]; exact room
        have ll : w.params.followText "set-order" = true ∨ u.led = true := by rw [l1]; exact hl
        have fin : ∀ h1, Heap.SameBut a s.heap h1 → SetW P w h1 a (fun j => B j || decide (j = k)) fs.size → Q true { s with heap := h1 } := fun h1 sb r => by
          have q := hQ h1 sb
          rw [hB] at q; rw [sz] at r; exact q r
        have giv : ∀ (b : Bool) (s1 : Shared) (Q1 : Unit → Shared → Prop), Q1 () s1 → wpAny (model P w) A (match b with | true => rule "set.scan.the-table-gave-way" | false => pure ()) Q1 E s1 := fun b s1 Q1 q => by
          cases b
          · exact wpAny_pure q
          · exact wpAny_rule q
        refine wpAny_bind (giv _ _ _ ?_)
        split
        · refine wpAny_bind ?_
          rw [hashByValue_scannable 8 hs]
          refine wpAny_pure (setW_tail (fun b s1 Q1 q => ?_) ho hx hd el1 mm1 bb ?_ ?_ ?_ fun h1 sb r => ?_)
          · cases b
            · first | exact wpAny_pure q | exact wpAny_rule q
            · first | exact wpAny_pure q | exact wpAny_rule q
          · first | exact f1 | (split <;> first | exact f1 | exact SetTable.fits_plain_off f1)
          · first | exact r1 | (split <;> exact r1)
          · first | exact ll | (split <;> exact ll)
          · dsimp only; exact wpAny_pure (fin h1 sb r)
        · refine wpAny_bind (wpAny_pure ?_)
          simp only [↓reduceIte]
          refine setW_tail (fun b s1 Q1 q => ?_) ho hx hd el1 mm1 bb f1 r1 ll fun h1 sb r => ?_
          · cases b
            · first | exact wpAny_pure q | exact wpAny_rule q
            · first | exact wpAny_pure q | exact wpAny_rule q
          · dsimp only; exact wpAny_pure (fin h1 sb r)
end
/-! ### set(list), set(tuple), set(text) -/
def keyB (ks : List Key) : Key → Bool := fun k => ks.any fun j => decide (k = j)
theorem keyB_iff {ks : List Key} {k : Key} : keyB ks k = true ↔ k ∈ ks := by
  unfold keyB
  rw [List.any_eq_true]
  exact ⟨fun ⟨j, hj, e⟩ => of_decide_eq_true e ▸ hj, fun h => ⟨k, h, decide_eq_true rfl⟩⟩
def kdist (ks : List Key) : List Key := ks.foldl (fun acc k => if keyB acc k = true then acc else acc ++ [k]) []
theorem kdist_snoc (ks : List Key) (k : Key) : kdist (ks ++ [k]) = if keyB (kdist ks) k = true then kdist ks else kdist ks ++ [k] := by
  unfold kdist
  rw [List.foldl_append]
  rfl
theorem mem_kdist {ks : List Key} {k : Key} : k ∈ kdist ks ↔ k ∈ ks := by
  refine snocInd (P := fun ks => k ∈ kdist ks ↔ k ∈ ks) Iff.rfl (fun l d ih => ?_) ks
  rw [kdist_snoc, List.mem_append, List.mem_singleton]
  by_cases h : keyB (kdist l) d = true
  · rw [if_pos h, ih]
    refine ⟨.inl, fun z => z.elim id fun e => ?_⟩
    subst e; exact ih.mp (keyB_iff.mp h)
  · rw [if_neg h, List.mem_append, List.mem_singleton, ih]
theorem kdist_nodup (ks : List Key) : (kdist ks).Nodup := by
  refine snocInd (P := fun ks => (kdist ks).Nodup) List.nodup_nil (fun l d ih => ?_) ks
  rw [kdist_snoc]
  by_cases h : keyB (kdist l) d = true
  · rw [if_pos h]; exact ih
  · rw [if_neg h]
    exact List.nodup_append.mpr ⟨ih, List.nodup_cons.mpr ⟨List.not_mem_nil, List.nodup_nil⟩, fun a ha b hb => by
      rw [List.mem_singleton] at hb; subst hb; intro e; subst e; exact h (keyB_iff.mpr ha)⟩
theorem kdist_len (ks : List Key) : (kdist ks).length ≤ ks.length := by
  refine snocInd (P := fun l => (kdist l).length ≤ l.length) (Nat.le_refl _) (fun l c ih => ?_) ks
  rw [kdist_snoc, List.length_append]
  by_cases h : keyB (kdist l) c = true
  · rw [if_pos h]; exact Nat.le_succ_of_le ih
  · rw [if_neg h, List.length_append]; exact Nat.add_le_add_right ih _
theorem keyB_snoc (ks : List Key) (k : Key) : (fun j => keyB ks j || decide (j = k)) = keyB (ks ++ [k]) := funext fun j => by
  unfold keyB
  rw [List.any_append, List.any_cons, List.any_nil, Bool.or_false]
theorem keyN_snoc (ks : List Key) (k : Key) : (if keyB ks k = true then (kdist ks).length else (kdist ks).length + 1) = (kdist (ks ++ [k])).length := by
  rw [kdist_snoc]
  by_cases h : k ∈ ks
  · rw [if_pos (keyB_iff.mpr h), if_pos (keyB_iff.mpr (mem_kdist.mpr h))]
  · rw [if_neg (fun z => h (keyB_iff.mp z)), if_neg (fun z => h (mem_kdist.mp (keyB_iff.mp z))), List.length_append]
    rfl
section
variable {P : Program} {w : World} {A : Around}
theorem setW_loop {R : Result → Shared → Prop} {I D : Addr} {fp wr : List Addr} {G : Array GenState → Array GenState → Prop} {Pv : Nat → Value → Prop} {St : Nat → Shared → Prop} {ks : List Key}
    (W : WalksS P w A.in1 I fp wr G ks.length Pv St) (hP : ∀ i v, Pv i v → ∃ k, ks[i]? = some k ∧ RelV (kV k) v) (hD : D ∉ fp) (hl : ks.length ≤ 4000) : ∀ (m i : Nat) (s : Shared), ks.length - i = m → i ≤ ks.length → St i s →
      SetW P w s.heap D (keyB (ks.take i)) (kdist (ks.take i)).length → (∀ s1, Moved (D :: wr) G s s1 → SetW P w s1.heap D (keyB ks) (kdist ks).length → R (.ok (.ret .none)) s1) →
      codeAny (model P w) A (.builtin "set.update.loop" ⟨[.ref D, .ref I], []⟩) R s := by
  have nD : D ∉ wr := fun z => hD (W.sub _ z)
  have more : ∀ b ∈ wr, b ∈ D :: wr := fun b z => List.mem_cons_of_mem _ z
  have carry : ∀ {s s1 : Shared} {B : Key → Bool} {n : Nat}, Moved wr G s s1 → SetW P w s.heap D B n → SetW P w s1.heap D B n := fun mv hs => hs.at fun o e => mv.heap D o nD e
  intro m
  induction m with
  | zero =>
    intro i s hm hi st hs fin
    obtain rfl : i = ks.length := by omega
    rw [List.take_length] at hs
    refine codeAny_builtin PyProof.Rows.F.entry_set_update_loop ?_
    rw [Around.under_plainId PyProof.Rows.F.plain_set_update_loop _]
    change wpAny _ A.in1 (pyNext (.ref I) >>= _) _ _ s
    exact wpAny_bind (W.done s _ _ st fun s1 mv => wpAny_pure (fin s1 (mv.mono more) (carry mv hs)))
  | succ m ih =>
    intro i s hm hi st hs fin
    have lt : i < ks.length := by omega
    refine codeAny_builtin PyProof.Rows.F.entry_set_update_loop ?_
    rw [Around.under_plainId PyProof.Rows.F.plain_set_update_loop _]
    change wpAny _ A.in1 (pyNext (.ref I) >>= _) _ _ s
    refine wpAny_bind (W.item i s _ _ lt st fun v s1 hv st1 mv => ?_)
    obtain ⟨k, hk, rv⟩ := hP i v hv
    have hi := kV_is (P := P) (w := w) rv
    have hsc := key_scan rv
    change wpAny _ A.in1 (holding [v] (setAdd D v) >>= _) _ _ s1
    refine wpAny_bind (wpAny_holding ?_)
    unfold setAdd
    refine wpAny_holding (wpAny_bind ((mixKind P w).pyHash (k := k) hi ?_))
    have room : (kdist (ks.take i)).length + 1 < scanBound := by
      have := kdist_len (ks.take i)
      rw [List.length_take] at this
      unfold scanBound
      omega
    have tk : ks.take (i + 1) = ks.take i ++ [k] := by rw [List.take_add_one, hk]; rfl
    have hs0 := carry mv hs
    refine setW_add (s := { s1 with toks := s1.toks + 1 }) hi hsc hs0 room fun h1 sb hs1 => ?_
    rw [keyB_snoc, keyN_snoc, ← tk] at hs1
    refine wpAny_pure ⟨plainId_quiet PyProof.Rows.F.plain_set_update_loop _, ih (i + 1) _ (by omega) lt (W.frame _ s1 _ _ st1 (Nat.le_succ _) fun b hb o e => ?_) hs1 fun s2 mv2 hs3 => ?_⟩
    · exact (sb.2 b fun z => hD (z ▸ hb)).trans e
    · exact fin s2 (Moved.trans W.gtrans ((mv.mono more).then_heap (Nat.le_succ _) fun b o hb e => (sb.2 b fun z => hb (z ▸ List.mem_cons_self)).trans e) mv2) hs3
end
section
variable {P : Program} {w : World} {A : Around} {E : Value → Shared → Prop} {s : Shared}
def newSetO (w : World) : Obj := { cls := .type "set", dict := none, data := .set #[] 0 (.fresh 0 0 (!w.params.followText "set-order")) }
theorem set_new_led (v : Value) {Q1 : Value → Shared → Prop} (h : Q1 (.ref s.heap.objs.size) { s with heap := s.heap.push (newSetO w) }) :
    codeAny (model P w) A (.call (.builtin "set.__new__") ⟨[.type "set", v], []⟩) (wants Q1 E) s := by
  refine codeAny_of_tree (show wpAny _ A.in1 (checkBuiltinCall "set.__new__" ⟨[.type "set", v], []⟩ >>= fun _ => again (.builtin "set.__new__" ⟨[.type "set", v], []⟩)) _ _ s from ?_)
  refine wpAny_bind (wpAny_of_eq (PySem.F.newCall_set_1 v) (wpAny_pure ⟨plainId_quiet PySem.F.plain_set_new _, codeAny_builtin PySem.F.entry_set_new ?_⟩))
  rw [Around.under_plainId PySem.F.plain_set_new _]
  unfold Builtin.«set.__new__» Builtin.Frozenset.newClass
  have sb := sub_set_self; obtain ⟨hp, g, d, tk, os⟩ := s; dsimp only
  wp_walk
  refine wpAny_askSetting (wpAny_pure ?_); dsimp only; simp only [newObj]; exact wpAny_bind (wpAny_alloc (wpAny_pure (wpAny_pure h)))
set_option maxHeartbeats 3200000 in
theorem setW_call {v : Value} {ks : List Key} {Q : Value → Shared → Prop} (hh : A.handled = none)
    (hin : ∀ (A1 : Around) (F : Fin → Shared → Prop) (E1 : Value → Shared → Prop), A1.handled = none → (∀ (h1 : Heap) (tk : Nat), SetW P w h1 s.heap.objs.size (keyB ks) (kdist ks).length → (∀ b o, b < s.heap.objs.size → s.heap.get? b = some o → h1.get? b = some o) → F (.done (.ret .none)) { s with heap := h1, toks := tk }) →
      wpAny (model P w) A1 (Builtin.«set.__init__» ⟨[.ref s.heap.objs.size, v], []⟩) F E1 { s with heap := s.heap.push (newSetO w) })
    (q : ∀ (h1 : Heap) (tk : Nat), SetW P w h1 s.heap.objs.size (keyB ks) (kdist ks).length → (∀ b o, b < s.heap.objs.size → s.heap.get? b = some o → h1.get? b = some o) → Q (.ref s.heap.objs.size) { s with heap := h1, toks := tk }) :
    wpAny (model P w) A (call (.type "set") [v]) Q E s := by
  obtain ⟨c, tl, hmro⟩ := PySem.F.called_set.mro
  have hmade := PySem.F.called_set.made; have hsub := PySem.F.called_set.sub
  refine wpAny_call (codeAny_of_tree (show wpAny _ _ (callAny (.type "set") _) _ _ _ from ?_))
  refine wpAny_pure ⟨Code.quiet_builtin _ (by decide +kernel), codeAny_builtin PySem.F.entry_type_call ?_⟩
  rw [Around.under_plain (weight_type_call_type "set" [v] []) rfl]
  have h1 := PySem.F.called_set.notType; have h2 := PySem.F.called_set.canCreate; have hct := PySem.F.typeCall_set_1 v
  repeat (any_goals (first | assumption | wp_step))
  refine codeAny_mono (set_new_led v (E := E) (Q1 := fun obj s1 => obj = .ref s.heap.objs.size ∧ s1 = { s with heap := s.heap.push (newSetO w) }) ⟨rfl, rfl⟩) fun r s1 hr => ?_
  match r, hr with
  | .error e, hr => exact hr
  | .ok .next, hr => exact hr.elim
  | .ok .brk, hr => exact hr.elim
  | .ok .cont, hr => exact hr.elim
  | .ok (.ret obj), hr =>
    obtain ⟨rfl, rfl⟩ := hr
    have hS : (s.heap.push (newSetO w)).get? s.heap.objs.size = some (newSetO w) := Heap.get?_push_size _ rfl
    have hT : Shared.TypeIs { s with heap := s.heap.push (newSetO w) } (.ref s.heap.objs.size) "set" := ⟨_, hS, rfl⟩
    have hli := PySem.F.called_set.init.lookup; have hbi := PySem.F.called_set.init.bind (.ref s.heap.objs.size)
    repeat (any_goals (first | assumption | wp_step))
    refine codeAny_mono (codeAny_call_builtin (R := wants (fun r s2 => r = .none ∧ ∃ h1 tk, s2 = { s with heap := h1, toks := tk } ∧ SetW P w h1 s.heap.objs.size (keyB ks) (kdist ks).length ∧
      (∀ b o, b < s.heap.objs.size → s.heap.get? b = some o → h1.get? b = some o)) E) PySem.F.called_set.init.plain PySem.F.entry_set_init (check_set_init_1 hT ?_)) fun r2 s2 hr2 => ?_
    · exact hin _ _ _ (by simp [hh]) fun h1 tk a1 a2 => ⟨rfl, h1, tk, rfl, a1, a2⟩
    · match r2, hr2 with
      | .error e, hr2 => exact hr2
      | .ok .next, hr2 => exact hr2.elim
      | .ok .brk, hr2 => exact hr2.elim
      | .ok .cont, hr2 => exact hr2.elim
      | .ok (.ret r), hr2 =>
        obtain ⟨rfl, h1, tk, rfl, a1, a2⟩ := hr2
        repeat (any_goals (first | assumption | wp_step))
        exact q _ _ a1 a2
theorem newSetO_at {h : Heap} {o : Obj} : SetW P w ((h.push (newSetO w)).push o) h.objs.size (keyB []) 0 :=
  ⟨newSetO w, #[], 0, _, Heap.get?_push_of_some _ (Heap.get?_push_size _ rfl), ⟨rfl, rfl, rfl⟩, rfl, (fun e he => by simp at he), (fun k => by simp [keyB]), ⟨by decide, by rfl, rfl⟩, List.Pairwise.nil, by
    show _ ∨ (!w.params.followText "set-order") = true
    cases w.params.followText "set-order"
    · exact .inr rfl
    · exact .inl rfl⟩
theorem vals_key {ks : List Key} {us : List Value} (hv : Vals (ks.map kV) us) {i : Nat} {v : Value} (hi : us[i]? = some v) : ∃ k, ks[i]? = some k ∧ RelV (kV k) v := by
  have lt := (List.getElem?_eq_some_iff.mp hi).1
  rw [← hv.length, List.length_map] at lt
  have hk : ks[i]? = some ks[i] := List.getElem?_eq_getElem lt
  obtain ⟨u, hu, ru⟩ := hv.get (i := i) (by rw [List.getElem?_map, hk]; rfl)
  obtain rfl : u = v := Option.some.inj (hu.symm.trans hi)
  exact ⟨_, hk, ru⟩
set_option maxHeartbeats 3200000 in
theorem init_list {l : Addr} {items : Array Value} {ks : List Key} (hl : s.heap.IsList l items) (hv : Vals (ks.map kV) items.toList) (hn : ks.length ≤ 4000) : ∀ (A1 : Around) (F : Fin → Shared → Prop) (E1 : Value → Shared → Prop), A1.handled = none →
    (∀ (h1 : Heap) (tk : Nat), SetW P w h1 s.heap.objs.size (keyB ks) (kdist ks).length → (∀ b o, b < s.heap.objs.size → s.heap.get? b = some o → h1.get? b = some o) → F (.done (.ret .none)) { s with heap := h1, toks := tk }) →
      wpAny (model P w) A1 (Builtin.«set.__init__» ⟨[.ref s.heap.objs.size, .ref l], []⟩) F E1 { s with heap := s.heap.push (newSetO w) } := by
  intro A1 F E1 hh q
  have hl0 := hl
  obtain ⟨⟨oc, od, odat, osl⟩, hol, hcl, nl, hdl⟩ := hl
  simp only at hcl hdl
  subst hcl; subst hdl
  have hol1 : (s.heap.push (newSetO w)).get? l = some { cls := .type "list", dict := od, data := .seq items nl, slots := osl } := Heap.get?_push_of_some _ hol
  have k1 := PySem.F.sub_list_set; have k2 := PySem.F.sub_list_frozenset; have k3 : (Value.type "list" == Value.type "dict") = false := by decide
  have lt : l < s.heap.objs.size := Heap.lt_size hol
  unfold Builtin.«set.__init__» noKeywords Builtin.Frozenset.updateFrom
  generalize hPI : pyIter = PI
  wp_walk
  subst hPI
  refine wpAny_pyIter_list (hl0.push _) (wpAny_bind (wpAny_runValue ?_))
  have neI : l ≠ (s.heap.push (newSetO w)).objs.size := by rw [Heap.size_push]; exact Nat.ne_of_lt (Nat.lt_succ_of_lt lt)
  have sz : ks.length = items.size := by rw [← Array.length_toList, ← hv.length, List.length_map]
  have W := (Walks.list (prog := P) (w := w) (A := A1.in1) (by simp [hh]) (s.heap.push (newSetO w)).objs.size l neI items).toS
  rw [← sz] at W
  refine setW_loop W (fun i v hi => ?_) ?nD hn (ks.length - 0) 0 _ (by omega) (Nat.zero_le _) ⟨⟨_, Heap.get?_push_size _ rfl, rfl, rfl⟩, ((hl0.push _).push _)⟩ newSetO_at ?fin
  · exact vals_key hv (by rw [Array.getElem?_toList]; exact hi)
  case nD =>
    rw [Heap.size_push]
    simp only [List.mem_cons, List.mem_singleton, List.not_mem_nil, or_false, not_or]
    exact ⟨Nat.ne_of_lt (Nat.lt_succ_self _), Nat.ne_of_gt lt⟩
  case fin =>
    intro s2 mv hs2
    have eg := mv.gens; have ed := mv.drawn; have eo := mv.os
    obtain ⟨h2, g2, d2, tk2, os2⟩ := s2
    obtain rfl : g2 = s.gens := eg
    obtain rfl : d2 = s.drawn := ed
    obtain rfl : os2 = s.os := eo
    refine wpAny_pure (wpAny_pure (q h2 tk2 hs2 fun b u hb e => mv.heap b u (fun z => ?_) (Heap.get?_push_of_some _ (Heap.get?_push_of_some _ e))))
    rcases List.mem_cons.mp z with z | z
    · exact absurd z (Nat.ne_of_lt hb)
    · exact absurd (List.mem_singleton.mp z) (by rw [Heap.size_push]; exact Nat.ne_of_lt (Nat.lt_succ_of_lt hb))
set_option maxHeartbeats 3200000 in
theorem init_tuple {l : Addr} {items : Array Value} {ks : List Key} (hl : s.heap.IsTuple l items) (hv : Vals (ks.map kV) items.toList) (hn : ks.length ≤ 4000) : ∀ (A1 : Around) (F : Fin → Shared → Prop) (E1 : Value → Shared → Prop), A1.handled = none →
    (∀ (h1 : Heap) (tk : Nat), SetW P w h1 s.heap.objs.size (keyB ks) (kdist ks).length → (∀ b o, b < s.heap.objs.size → s.heap.get? b = some o → h1.get? b = some o) → F (.done (.ret .none)) { s with heap := h1, toks := tk }) →
      wpAny (model P w) A1 (Builtin.«set.__init__» ⟨[.ref s.heap.objs.size, .ref l], []⟩) F E1 { s with heap := s.heap.push (newSetO w) } := by
  intro A1 F E1 hh q
  have hl0 := hl
  obtain ⟨⟨oc, od, odat, osl⟩, hol, hcl, nl, hdl⟩ := hl
  simp only at hcl hdl
  subst hcl; subst hdl
  have hol1 : (s.heap.push (newSetO w)).get? l = some { cls := .type "tuple", dict := od, data := .seq items nl, slots := osl } := Heap.get?_push_of_some _ hol
  have k1 := PySem.F.sub_tuple_set; have k2 := PySem.F.sub_tuple_frozenset; have k3 : (Value.type "tuple" == Value.type "dict") = false := by decide
  have lt : l < s.heap.objs.size := Heap.lt_size hol
  unfold Builtin.«set.__init__» noKeywords Builtin.Frozenset.updateFrom
  generalize hPI : pyIter = PI
  wp_walk
  subst hPI
  refine wpAny_pyIter_tuple (hl0.push _) (wpAny_bind (wpAny_runValue ?_))
  have neI : l ≠ (s.heap.push (newSetO w)).objs.size := by rw [Heap.size_push]; exact Nat.ne_of_lt (Nat.lt_succ_of_lt lt)
  have sz : ks.length = items.size := by rw [← Array.length_toList, ← hv.length, List.length_map]
  have W := (Walks.tuple (prog := P) (w := w) (A := A1.in1) (by simp [hh]) (s.heap.push (newSetO w)).objs.size l neI items).toS
  rw [← sz] at W
  refine setW_loop W (fun i v hi => ?_) ?nD hn (ks.length - 0) 0 _ (by omega) (Nat.zero_le _) ⟨⟨_, Heap.get?_push_size _ rfl, rfl, rfl⟩, ((hl0.push _).push _)⟩ newSetO_at ?fin
  · exact vals_key hv (by rw [Array.getElem?_toList]; exact hi)
  case nD =>
    rw [Heap.size_push]
    simp only [List.mem_cons, List.mem_singleton, List.not_mem_nil, or_false, not_or]
    exact ⟨Nat.ne_of_lt (Nat.lt_succ_self _), Nat.ne_of_gt lt⟩
  case fin =>
    intro s2 mv hs2
    have eg := mv.gens; have ed := mv.drawn; have eo := mv.os
    obtain ⟨h2, g2, d2, tk2, os2⟩ := s2
    obtain rfl : g2 = s.gens := eg
    obtain rfl : d2 = s.drawn := ed
    obtain rfl : os2 = s.os := eo
    refine wpAny_pure (wpAny_pure (q h2 tk2 hs2 fun b u hb e => mv.heap b u (fun z => ?_) (Heap.get?_push_of_some _ (Heap.get?_push_of_some _ e))))
    rcases List.mem_cons.mp z with z | z
    · exact absurd z (Nat.ne_of_lt hb)
    · exact absurd (List.mem_singleton.mp z) (by rw [Heap.size_push]; exact Nat.ne_of_lt (Nat.lt_succ_of_lt hb))
set_option maxHeartbeats 3200000 in
theorem init_text {l : List Nat} {u0 : Tok} (hn : l.length ≤ 4000) : ∀ (A1 : Around) (F : Fin → Shared → Prop) (E1 : Value → Shared → Prop), A1.handled = none →
    (∀ (h1 : Heap) (tk : Nat), SetW P w h1 s.heap.objs.size (keyB (l.map fun c => .inr (S [c]))) (kdist (l.map fun c => .inr (S [c]))).length → (∀ b o, b < s.heap.objs.size → s.heap.get? b = some o → h1.get? b = some o) → F (.done (.ret .none)) { s with heap := h1, toks := tk }) →
      wpAny (model P w) A1 (Builtin.«set.__init__» ⟨[.ref s.heap.objs.size, .str (S l) u0], []⟩) F E1 { s with heap := s.heap.push (newSetO w) } := by
  intro A1 F E1 hh q
  have k1 := sub_str_set; have k2 := sub_str_frozenset; have k3 : (Value.type "str" == Value.type "dict") = false := by decide
  unfold Builtin.«set.__init__» noKeywords Builtin.Frozenset.updateFrom
  generalize hPI : pyIter = PI
  wp_walk
  subst hPI
  refine wpAny_pyIter_str fun o St W st0 => wpAny_bind (wpAny_runValue ?_)
  have W2 := (W A1.in1 (by simp [hh])).toS
  have hz : (S l).cps.size = (l.map fun c => (Sum.inr (S [c]) : Key)).length := by simp [S]
  rw [hz] at W2
  refine setW_loop W2 (fun i v hi => ?_) ?nD (by rw [List.length_map]; exact hn) (_ - 0) 0 _ rfl (Nat.zero_le _) st0 newSetO_at ?fin
  · obtain ⟨c, u, hc, rfl⟩ := hi
    have hc : l[i]? = some c := by rw [← hc]; simp [S]
    exact ⟨.inr (S [c]), by rw [List.getElem?_map, hc]; rfl, ⟨u, rfl⟩⟩
  case nD =>
    rw [Heap.size_push, List.mem_singleton]
    exact Nat.ne_of_lt (Nat.lt_succ_self _)
  case fin =>
    intro s2 mv hs2
    have eg := mv.gens; have ed := mv.drawn; have eo := mv.os
    obtain ⟨h2, g2, d2, tk2, os2⟩ := s2
    obtain rfl : g2 = s.gens := eg
    obtain rfl : d2 = s.drawn := ed
    obtain rfl : os2 = s.os := eo
    refine wpAny_pure (wpAny_pure (q h2 tk2 hs2 fun b u hb e => mv.heap b u (fun z => ?_) (Heap.get?_push_of_some _ (Heap.get?_push_of_some _ e))))
    rcases List.mem_cons.mp z with z | z
    · exact absurd z (Nat.ne_of_lt hb)
    · exact absurd (List.mem_singleton.mp z) (by rw [Heap.size_push]; exact Nat.ne_of_lt (Nat.lt_succ_of_lt hb))
end

/-! ### the rules of such sets -/
def SetH (P : Program) (w : World) (a : Addr) (B : Key → Bool) (n : Nat) : HO := .ext fun h => SetW P w h a B n
theorem setH_new {w : World} {P : Program} {H : Hp} {h : Heap} {a : Addr} {B : Key → Bool} {n : Nat} (R : SetW P w h a B n) : ObjOk P w H h a (SetH P w a B n) := by
  have ⟨o, _, _, _, ho, _⟩ := R
  exact ⟨R, ⟨o, ho⟩, fun h1 h2 p k => p.at k⟩
theorem setH_get {X : Cx} {pins : List (Addr × Obj)} {σ : L2.St} {H : Hp} {s : Shared} {a : Addr} {B : Key → Bool} {n : Nat} (I : Inv X pins σ H s) (ha : H a = some (SetH X.prog X.w a B n)) : SetW X.prog X.w s.heap a B n := (I.hok a _ ha).1
/-- the set of these keys -/
def setOfK (P : Program) (w : World) (a : Addr) (ks : List Key) : HO := SetH P w a (keyB ks) (kdist ks).length
def rSetKeys (P : Program) (w : World) (K : PySem.W.Frag) : List V → Hp → VK → Prop := fun xs H Q => ∃ ks : List Key, ((∃ a, xs = [.ref a] ∧ (SqL K H a (ks.map kV) ∨ SqT K H a (ks.map kV))) ∨ (∃ l : List Nat, xs = [.str (S l)] ∧ ks = l.map fun c => .inr (S [c]))) ∧ ks.length ≤ 4000 ∧
  ∀ p, H p = none → Q (.ref p) (upd H p (setOfK P w p ks))
theorem cr_setKeys {X : Cx} (hc : X.calm = true) : CallR X (.type "set") (rSetKeys X.prog X.w X.K) := by
  intro pins s σ H xs us Q I r h
  obtain ⟨ks, h, hn, q⟩ := h
  have fin : ∀ (h1 : Heap) (tk : Nat), SetW X.prog X.w h1 s.heap.objs.size (keyB ks) (kdist ks).length → (∀ b o, b < s.heap.objs.size → s.heap.get? b = some o → h1.get? b = some o) → _ := fun h1 tk a1 keep =>
    (⟨.ref s.heap.objs.size, upd H s.heap.objs.size (setOfK X.prog X.w s.heap.objs.size ks), I.laid (t' := tk) (fun b u e => keep b u (Heap.lt_size e) e) (Nat.le_refl _) (setH_new a1), rfl, q _ (I.hok.fresh (Nat.le_refl _))⟩ :
      ∃ x H1, Inv X pins σ H1 { s with heap := h1, toks := tk } ∧ RelV x (.ref s.heap.objs.size) ∧ Q x H1)
  rcases h with ⟨a, rfl, h⟩ | ⟨l, rfl, rfl⟩
  · rw [Vals.ref1 r]
    rcases h with h | h
    · obtain ⟨its, rv, p, _⟩ := I.list h
      exact setW_call (I.ok.hd hc) (init_list p.isList (by simpa using rv) hn) fin
    · obtain ⟨its, rv, p, _⟩ := I.tuple h
      exact setW_call (I.ok.hd hc) (init_tuple (show s.heap.IsTuple a its.toArray from p) (by simpa using rv) hn) fin
  · obtain ⟨u, rfl, rx⟩ := vals1 r
    obtain ⟨t, rfl⟩ := rx
    rw [List.length_map] at hn
    exact setW_call (I.ok.hd hc) (init_text hn) fin
def rLenSetH (P : Program) (w : World) : List V → Hp → VK → Prop := fun xs H Q => ∃ a B n, xs = [.ref a] ∧ H a = some (SetH P w a B n) ∧ Q (.int (n : Nat)) H
theorem cr_lenSetH {X : Cx} : CallR X (.builtin "len") (rLenSetH X.prog X.w) := by
  intro pins s σ H xs us Q I r h
  obtain ⟨a, B, n, rfl, ha, q⟩ := h
  rw [Vals.ref1 r]
  obtain ⟨o, es, ep, t, ho, hx, hd, _, _, ⟨b1, b2, b3⟩, _⟩ := setH_get I ha
  have hsb : scanBound = 16384 ∨ True := .inr trivial
  refine PySem.call_len_set ho hx hd b2 (by unfold scanBound at b1; omega) ⟨.int (n : Nat), H, I.tok _, ⟨_, by rw [b3]⟩, q⟩
theorem perm_nodup {α : Type} [DecidableEq α] : ∀ {l m : List α}, l.Nodup → (∀ x ∈ l, x ∈ m) → m.length ≤ l.length → m.Perm l
  | [], [], _, _, _ => List.Perm.refl _
  | [], _ :: _, _, _, h => by simp at h
  | x :: r, m, h, hs, hl => by
    obtain ⟨h1, h2⟩ := List.nodup_cons.mp h
    have hx : x ∈ m := hs x List.mem_cons_self
    have p := List.perm_cons_erase hx
    refine p.trans (List.Perm.cons x (perm_nodup h2 (fun y hy => (List.mem_erase_of_ne fun e => h1 (by rw [← e]; exact hy)).mpr (hs y (List.mem_cons_of_mem _ hy))) ?_))
    have := p.length_eq
    rw [List.length_cons] at this hl
    omega
/-! ### sorted(set of texts) -/
theorem strs_shape : ∀ vs : List Value, (∀ v ∈ vs, ∃ x t, v = Value.str x t) → StrsAre vs (vs.map fun v => match v with | .str x _ => x | _ => Str.empty)
  | [], _ => .nil
  | v :: r, h => by
    obtain ⟨x, t, rfl⟩ := h v List.mem_cons_self
    exact .cons x t (strs_shape r fun u hu => h u (List.mem_cons_of_mem _ hu))
def textOf (v : Value) : Str := match v with | .str x _ => x | _ => Str.empty
section
variable {P : Program} {w : World} {A : Around} {E : Value → Shared → Prop} {s : Shared} {a : Addr}
theorem sorted_setW {zs : List Str} {Q : Value → Shared → Prop} (R : SetW P w s.heap a (keyB (zs.map Sum.inr)) (kdist (zs.map Sum.inr)).length) (hh : A.handled = none) (h64 : zs.length < 64)
    (hQ : ∀ s1 p (out : Array Value) (c : Nat) (ys : List Str), (∀ b o, s.heap.get? b = some o → s1.heap.get? b = some o) → s1.gens = s.gens → s1.os = s.os → s.heap.objs.size ≤ p → s1.heap.get? p = some (seqObj "list" out c) →
      StrsAre out.toList ys → ys.Nodup → (∀ x, x ∈ ys ↔ x ∈ zs) → sortedS ys = true → Q (.ref p) s1) : wpAny (model P w) A (call (.builtin "sorted") [.ref a]) Q E s := by
  obtain ⟨o, es, ep, t, ho, hx, hd, el, hm, ⟨b1, b2, b3⟩, hr, hl⟩ := R
  have shape : ∀ e ∈ es.toList, ∃ x u, e.2 = Value.str x u ∧ x ∈ zs := fun e he => by
    obtain ⟨⟨k, hk, _⟩, _⟩ := el e he
    have hkz := keyB_iff.mp ((hm k).mpr ⟨e, he, hk⟩)
    obtain ⟨x, hx, rfl⟩ := List.mem_map.mp hkz
    rcases L2.keyIs_shape (k := Sum.inr x) (v := e.2) hk with ⟨i, u, e1, _⟩ | ⟨y, u, e1, e2⟩
    · cases e1
    · cases e1
      exact ⟨x, u, e2, hx⟩
  -- the texts in the set, each once
  have pm0 : (es.toList.map fun e => (Sum.inr (textOf e.2) : Key)).Perm (kdist (zs.map Sum.inr)) := by
    refine perm_nodup (kdist_nodup _) (fun k hk => ?_) (by rw [List.length_map, Array.length_toList, b3]; exact Nat.le_refl _)
    obtain ⟨e, he, hi⟩ := (hm k).mp (keyB_iff.mpr (mem_kdist.mp hk))
    refine List.mem_map.mpr ⟨e, he, ?_⟩
    rcases L2.keyIs_shape (k := k) (v := e.2) hi with ⟨i, u, rfl, e2⟩ | ⟨y, u, rfl, e2⟩
    · obtain ⟨x, u2, e3, _⟩ := shape e he
      rw [e2] at e3; cases e3
    · rw [e2]; rfl
  have nd0 : (es.toList.map fun e => textOf e.2).Nodup := by
    have q := (pm0.nodup_iff).mpr (kdist_nodup _)
    have q2 : ((es.toList.map fun e => textOf e.2).map fun x : Str => (Sum.inr x : Key)).Nodup := by rw [List.map_map]; exact q
    exact (List.pairwise_map.mp q2).imp fun h e => h (by rw [e])
  have mem0 : ∀ x, x ∈ (es.toList.map fun e => textOf e.2) ↔ x ∈ zs := fun x => by
    have q : (Sum.inr x : Key) ∈ (es.toList.map fun e => (Sum.inr (textOf e.2) : Key)) ↔ (Sum.inr x : Key) ∈ kdist (zs.map Sum.inr) := pm0.mem_iff
    rw [mem_kdist, List.mem_map, List.mem_map] at q
    rw [List.mem_map]
    constructor
    · rintro ⟨e, he, rfl⟩
      obtain ⟨y, hy, e1⟩ := q.mp ⟨e, he, rfl⟩
      cases e1; exact hy
    · intro hz
      obtain ⟨e, he, e1⟩ := q.mpr ⟨x, hz, rfl⟩
      exact ⟨e, he, Sum.inr.inj e1⟩
  have len0 : es.toList.length ≤ zs.length := by
    have := pm0.length_eq
    have k2 := kdist_len (zs.map (Sum.inr : Str → Key))
    rw [List.length_map] at this k2
    omega
  refine Calls.call_function_entry kind_sorted plain_sorted entry_sorted (args_sorted1 _) (show wpAny _ _ (Builtin.«sorted» _) _ _ _ from ?_)
  unfold Builtin.«sorted»
  refine wpAny_bind (m := checkCount "sorted" 1 1 _) (wpAny_pure (wpAny_bind (collect_set (A := A.in1) hh ⟨o, ho, hx.1, hd⟩ b2 b1 hr hl fun s1 vs k1 hz g1 o1 pm => ?_)))
  have hvs : ∀ v ∈ vs, ∃ x u, v = Value.str x u := fun v hv => by
    obtain ⟨e, he, q⟩ := List.mem_map.mp (pm.mem_iff.mp hv)
    obtain ⟨x, u, h1, _⟩ := shape e he
    exact ⟨x, u, by rw [← q]; exact h1⟩
  have hS : StrsAre vs (vs.map textOf) := strs_shape vs hvs
  have hlen : vs.length ≤ zs.length := by rw [pm.length_eq, List.length_map]; exact len0
  have pk : (vs.map textOf).Perm (es.toList.map fun e => textOf e.2) := by
    have q := pm.map textOf
    rw [List.map_map] at q
    exact q
  refine wpAny_bind (wpAny_newList (show _ from ?_) (by rw [sizeLine_eq]; omega))
  have hoL : (s1.heap.push (seqObj "list" vs.toArray 0)).get? s1.heap.objs.size = some (seqObj "list" vs.toArray 0) := Heap.get?_push_size _ rfl
  refine wpAny_bind (wpAny_holding (wpAny_call_entry slot_list_sort ⟨_, hoL, rfl⟩ entry_list_sort (list_sort_treeK strKind_oneLt hoL hS.keysOf (fun v1 v2 rest e => keyKind_strs (by rw [← e]; exact hS)) (by omega) fun st1 hp hs => ⟨_, rfl, ?_⟩) (args_list_sort _)))
  obtain ⟨ys, y1, y2, y3⟩ := sorted_out_str hS hp hs
  obtain ⟨c, hc⟩ := sortedHeap_at (vs := vs) (out := (arrOf st1).map (·.2)) hoL
  have pn := y2.trans pk
  refine wpAny_pure ⟨_, rfl, hQ _ s1.heap.objs.size _ c ys (fun b u e => ?_) g1 o1 hz hc y1 (pn.nodup_iff.mpr nd0) (fun x => by rw [pn.mem_iff, mem0]) y3⟩
  have q := k1 b u e
  have lt := Heap.lt_size q
  rw [show ({ s1 with heap := sortedHeap (s1.heap.push (seqObj "list" vs.toArray 0)) s1.heap.objs.size vs ((arrOf st1).map (·.2)) } : Shared).heap.get? b = (sortedHeap (s1.heap.push (seqObj "list" vs.toArray 0)) s1.heap.objs.size vs ((arrOf st1).map (·.2))).get? b from rfl,
    sortedHeap_old (Nat.ne_of_lt lt) (by rw [size_push']; exact Nat.lt_succ_of_lt lt)]
  exact Heap.get?_push_of_some _ q
end
/-- sorted(set of texts): each once, in order -/
def rSortSetS (P : Program) (w : World) : List V → Hp → VK → Prop := fun vs H Q => ∃ (a : Addr) (zs : List Str), vs = [V.ref a] ∧ H a = some (setOfK P w a (zs.map Sum.inr)) ∧ zs.length < 64 ∧
  ∀ (ys : List Str) (p : Addr), ys.Nodup → (∀ x, x ∈ ys ↔ x ∈ zs) → sortedS ys = true → H p = none → Q (.ref p) (upd H p (.lst (ys.map V.str)))
theorem cr_sortSetS {X : Cx} (hc : X.calm = true) : CallR X (.builtin "sorted") (rSortSetS X.prog X.w) := by
  intro pins s σ H vs us Q I r h
  obtain ⟨a, zs, rfl, ha, h64, q⟩ := h
  rw [Vals.ref1 r]
  refine sorted_setW (setH_get I ha) (I.ok.hd hc) h64 fun s1 p out c ys k g o hp hg y1 y2 y3 y4 => ?_
  have hlen : (ys.map V.str).length ≤ sizeLine := by
    have := nodup_len y2 fun x hx => (y3 x).mp hx
    rw [List.length_map, sizeLine_eq]; omega
  have hn : H p = none := I.hok.fresh hp
  have J : Inv X pins σ (upd H p (.lst (ys.map V.str))) { s with heap := s1.heap, gens := s1.gens, drawn := s1.drawn, toks := s1.toks } :=
    I.call (ch := []) (Un.laid k hp hn) (I.hok.laid k hp ⟨hlen, out.toList, c, vals_of_strs y1, hg⟩) (by rw [g]; exact I.bare) (fun _ z => nomatch z)
  have e : s1 = { s with heap := s1.heap, gens := s1.gens, drawn := s1.drawn, toks := s1.toks } := by cases s1; cases s; cases o; rfl
  rw [e]
  exact ⟨.ref p, _, J, rfl, q ys p y2 y3 y4 hn⟩

/-! ### sorted(text) -/
section
variable {P : Program} {w : World} {A : Around} {E : Value → Shared → Prop} {s : Shared}
theorem collect_text {l : List Nat} {t : Tok} {Q : List Value → Shared → Prop} (hh : A.handled = none) (hn : l.length ≤ 100000)
    (hQ : ∀ (h1 : Heap) (tk : Nat) (vs : List Value), (∀ b o, s.heap.get? b = some o → h1.get? b = some o) → s.heap.objs.size ≤ h1.objs.size → StrsAre vs (l.map fun c => S [c]) → Q vs { s with heap := h1, toks := tk }) :
    wpAny (model P w) A (collect (.str (S l) t)) Q E s := by
  have hz : (S l).cps.size = l.length := by simp [S]
  unfold collect
  refine wpAny_bind (wpAny_runValue (codeAny_builtin F.entry_proto_collect (show _ from ?_)))
  rw [Around.under_plainId F.plain_proto_collect _]
  change wpAny _ A.in1 (newList [] >>= fun z => again (.builtin "list.__iadd__" ⟨[z, .str (S l) t], []⟩)) _ _ s
  refine wpAny_bind (wpAny_newObj_type (wpAny_pure ⟨plainId_quiet F.plain_list_iadd _, codeAny_builtin F.entry_list_iadd (show _ from ?_)⟩))
  rw [Around.under_plainId F.plain_list_iadd _]
  change wpAny _ A.in1 (Builtin.List.listExtendWith (.ref s.heap.objs.size) (.str (S l) t) (.ref s.heap.objs.size)) _ _ _
  refine wpAny_extend_str (R := fun r s1 => match r with | .ok (.ret v) => wpAny (model P w) A (match v with | .ref a => (load a >>= fun z => match z.data with | .seq xs _ => pure xs.toList | _ => unsupported "internal:collect") | _ => unsupported "internal:collect") Q E s1 | .ok _ => False | .error e => E e s1) hh (S l) t s.heap.objs.size _ 0 ?hS0 (fun h1 tk acc c keep hS items => ?_) (by rw [hz, sizeLine_eq]; omega)
  case hS0 => exact Heap.get?_push_size _ rfl
  change wpAny _ A (load s.heap.objs.size >>= _) _ _ _
  refine wpAny_bind (wpAny_load hS (wpAny_pure (hQ h1 tk acc.toList (fun b o e => keep b o (Nat.ne_of_lt (Heap.lt_size e)) (Heap.get?_push_of_some _ e)) (Nat.le_of_lt (Heap.lt_size hS)) ?_)))
  have el : acc.toList.length = l.length := by have := items.1; rw [hz] at this; simpa using this
  exact L2.strs_at (by rw [List.length_map]; exact el) fun j v hj => by
    obtain ⟨c, u, hc, rfl⟩ := items.2 j v (by rw [← Array.getElem?_toList]; exact hj)
    have hc : l[j]? = some c := by rw [← hc]; simp [S]
    exact ⟨S [c], u, by rw [List.getElem?_map, hc]; rfl, rfl⟩
theorem sorted_text {l : List Nat} {t : Tok} {Q : Value → Shared → Prop} (hh : A.handled = none) (h64 : l.length < 64)
    (hQ : ∀ s1 p (out : Array Value) (c : Nat) (ys : List Str), (∀ b o, s.heap.get? b = some o → s1.heap.get? b = some o) → s1.gens = s.gens → s1.os = s.os → s.heap.objs.size ≤ p → s1.heap.get? p = some (seqObj "list" out c) →
      StrsAre out.toList ys → ys.Perm (l.map fun c => S [c]) → sortedS ys = true → Q (.ref p) s1) : wpAny (model P w) A (call (.builtin "sorted") [.str (S l) t]) Q E s := by
  refine Calls.call_function_entry kind_sorted plain_sorted entry_sorted (args_sorted1 _) (show wpAny _ _ (Builtin.«sorted» _) _ _ _ from ?_)
  unfold Builtin.«sorted»
  refine wpAny_bind (m := checkCount "sorted" 1 1 _) (wpAny_pure (wpAny_bind (collect_text (A := A.in1) hh (by omega) fun h1 tk vs k1 hz hS => ?_)))
  have el : vs.length = l.length := by rw [hS.len_eq, List.length_map]
  generalize h1s : ({ s with heap := h1, toks := tk } : Shared) = s1
  have k1 : ∀ b o, s.heap.get? b = some o → s1.heap.get? b = some o := h1s ▸ k1
  have hz : s.heap.objs.size ≤ s1.heap.objs.size := h1s ▸ hz
  have g1 : s1.gens = s.gens := by rw [← h1s]
  have o1 : s1.os = s.os := by rw [← h1s]
  refine wpAny_bind (wpAny_newList (show _ from ?_) (by rw [sizeLine_eq]; omega))
  have hoL : (s1.heap.push (seqObj "list" vs.toArray 0)).get? s1.heap.objs.size = some (seqObj "list" vs.toArray 0) := Heap.get?_push_size _ rfl
  refine wpAny_bind (wpAny_holding (wpAny_call_entry slot_list_sort ⟨_, hoL, rfl⟩ entry_list_sort (list_sort_treeK strKind_oneLt hoL hS.keysOf (fun v1 v2 rest e => keyKind_strs (by rw [← e]; exact hS)) (by omega) fun st1 hp hs => ⟨_, rfl, ?_⟩) (args_list_sort _)))
  obtain ⟨ys, y1, y2, y3⟩ := sorted_out_str hS hp hs
  obtain ⟨c, hc⟩ := sortedHeap_at (vs := vs) (out := (arrOf st1).map (·.2)) hoL
  refine wpAny_pure ⟨_, rfl, hQ _ s1.heap.objs.size _ c ys (fun b u e => ?_) g1 o1 hz hc y1 y2 y3⟩
  have q := k1 b u e
  have lt := Heap.lt_size q
  rw [show ({ s1 with heap := sortedHeap (s1.heap.push (seqObj "list" vs.toArray 0)) s1.heap.objs.size vs ((arrOf st1).map (·.2)) } : Shared).heap.get? b = (sortedHeap (s1.heap.push (seqObj "list" vs.toArray 0)) s1.heap.objs.size vs ((arrOf st1).map (·.2))).get? b from rfl,
    sortedHeap_old (Nat.ne_of_lt lt) (by rw [size_push']; exact Nat.lt_succ_of_lt lt)]
  exact Heap.get?_push_of_some _ q
end
def rSortText : List V → Hp → VK → Prop := fun vs H Q => ∃ l : List Nat, vs = [.str (S l)] ∧ l.length < 64 ∧ ∀ (ys : List Str) (p : Addr), ys.Perm (l.map fun c => S [c]) → sortedS ys = true → H p = none → Q (.ref p) (upd H p (.lst (ys.map V.str)))
theorem cr_sortText {X : Cx} (hc : X.calm = true) : CallR X (.builtin "sorted") rSortText := by
  intro pins s σ H vs us Q I r h
  obtain ⟨l, rfl, h64, q⟩ := h
  obtain ⟨u, rfl, rx⟩ := vals1 r
  obtain ⟨t, rfl⟩ := rx
  refine sorted_text (I.ok.hd hc) h64 fun s1 p out c ys k g o hp hg y1 y2 y4 => ?_
  have hlen : (ys.map V.str).length ≤ sizeLine := by
    rw [List.length_map, y2.length_eq, List.length_map, sizeLine_eq]; omega
  have hn : H p = none := I.hok.fresh hp
  have J : Inv X pins σ (upd H p (.lst (ys.map V.str))) { s with heap := s1.heap, gens := s1.gens, drawn := s1.drawn, toks := s1.toks } :=
    I.call (ch := []) (Un.laid k hp hn) (I.hok.laid k hp ⟨hlen, out.toList, c, vals_of_strs y1, hg⟩) (by rw [g]; exact I.bare) (fun _ z => nomatch z)
  have e : s1 = { s with heap := s1.heap, gens := s1.gens, drawn := s1.drawn, toks := s1.toks } := by cases s1; cases s; cases o; rfl
  rw [e]
  exact ⟨.ref p, _, J, rfl, q ys p y2 y4 hn⟩

/-! ### zip of two walked things, by what drawing from each does -/
structure ZipA (z TI TO i1 i2 : Addr) (f1 f2 : List Addr) : Prop where
  z1 : z ∉ f1
  z2 : z ∉ f2
  t1 : TO ∉ f1
  t2 : TO ∉ f2
  u1 : TI ∉ f1
  u2 : TI ∉ f2
  x1 : i1 ∉ f2
  x2 : i2 ∉ f1
  m1 : i1 ∈ f1
  m2 : i2 ∈ f2
  zTI : z ≠ TI
  zTO : z ≠ TO
  TIO : TI ≠ TO
section
variable {P : Program} {w : World} {A : Around} {E : Value → Shared → Prop} {s : Shared} {z TI TO i1 i2 : Addr} {f1 f2 : List Addr} {n1 n2 k : Nat} {P1 P2 : Nat → Value → Prop} {St1 St2 : Nat → Heap → Prop} {a b : Value}
theorem ne_in {c d : Addr} {f : List Addr} (h : c ∉ f) (m : d ∈ f) : c ≠ d := fun e => h (e ▸ m)
theorem zipD_item {Q : Value → Shared → Prop} (hh : A.handled = none) (D1 : ∀ A1 : Around, A1.handled = none → Draws P w A1 i1 f1 n1 P1 St1) (D2 : ∀ A1 : Around, A1.handled = none → Draws P w A1 i2 f2 n2 P2 St2) (ap : ZipA z TI TO i1 i2 f1 f2)
    (hz : IsZip s.heap z TI TO .none) (hTI : IsPair s.heap TI (.ref i1) (.ref i2)) (hTO : IsPair s.heap TO a b) (s1 : St1 k s.heap) (s2 : St2 k s.heap) (h1 : k < n1) (h2 : k < n2)
    (hQ : ∀ h5 tk x y, P1 k x → P2 k y → IsZip h5 z TI TO (rawInt s.heap.objs.size) → IsPair h5 TO x y → St1 (k + 1) h5 → St2 (k + 1) h5 → IsPair h5 s.heap.objs.size x y →
      (∀ c o, c ≠ z → c ≠ TO → c ≠ i1 → c ≠ i2 → s.heap.get? c = some o → h5.get? c = some o) → Q (.ref s.heap.objs.size) { s with heap := h5, toks := tk }) :
    wpAny (model P w) A (Builtin.«zip.__next__» ⟨[.ref z], []⟩) (fun fin s9 => ∃ v, fin = .done (.ret v) ∧ Q v s9) E s := by
  have z1 := ne_in ap.z1 ap.m1; have z2 := ne_in ap.z2 ap.m2; have t1 := ne_in ap.t1 ap.m1; have t2 := ne_in ap.t2 ap.m2; have x12 : i1 ≠ i2 := ne_in ap.x1 ap.m2
  change wpAny _ _ (field (.ref z) 2 >>= _) _ _ _
  refine wpAny_bind (wpAny_field hz rfl (x := .bool false) rfl (show _ from ?_)); change wpAny _ _ (field (.ref z) 3 >>= _) _ _ _
  refine wpAny_bind (wpAny_field hz rfl (x := .ref TI) rfl (wpAny_bind (wpAny_seqItems hTI rfl (show _ from ?_)))); change wpAny _ _ (Builtin.SmallTypes.ownedTupleIsFree (.ref z) >>= _) _ _ _
  refine wpAny_bind (show _ from ?_); unfold Builtin.SmallTypes.ownedTupleIsFree
  refine wpAny_bind (wpAny_field hz rfl (x := .none) rfl (wpAny_pure (show _ from ?_))); simp only [if_true]
  refine wpAny_bind (wpAny_rule (wpAny_bind (wpAny_field hz rfl (x := .ref TO) rfl (wpAny_bind (wpAny_setField_rec hz (by simp) fun ha za sa => show _ from ?_)))))
  replace za : IsZip ha z TI TO .ellipsis := za
  refine wpAny_bind (show _ from ?_); simp only [List.zipIdx_cons, List.zipIdx_nil, List.forIn_cons, List.forIn_nil]
  refine wpAny_bind (wpAny_bind (wpAny_onRaise (show _ from ?_))); change wpAny _ _ (Builtin.SmallTypes.nextOf (.ref i1) >>= _) _ _ _
  have s1a : St1 k ha := (D1 A hh).frame k _ _ s1 fun c hc o e => (sa.2 c fun q => ap.z1 (q ▸ hc)).trans e
  have s2a : St2 k ha := (D2 A hh).frame k _ _ s2 fun c hc o e => (sa.2 c fun q => ap.z2 (q ▸ hc)).trans e
  refine wpAny_bind ((D1 _ (by first | exact hh | simp [hh])).item k { s with heap := ha } _ _ h1 s1a fun x hb tb px s1b sb => wpAny_pure (show _ from ?_))
  replace sb : Heap.SameBut i1 ha hb := sb
  have s2b : St2 k hb := (D2 A hh).frame k _ _ s2a fun c hc o e => (sb.2 c fun q => ap.x1 (q ▸ hc)).trans e
  have TOb : IsPair hb TO a b := (sb.2 TO t1).trans ((sa.2 TO ap.zTO.symm).trans hTO)
  refine wpAny_bind (wpAny_seqItems TOb rfl (wpAny_bind (wpAny_updateSeq_pair TOb fun hc TOc sc => show _ from ?_)))
  replace TOc : IsPair hc TO x b := TOc
  have s1c : St1 (k + 1) hc := (D1 A hh).frame _ _ _ s1b fun c hm o e => (sc.2 c fun q => ap.t1 (q ▸ hm)).trans e
  have s2c : St2 k hc := (D2 A hh).frame _ _ _ s2b fun c hm o e => (sc.2 c fun q => ap.t2 (q ▸ hm)).trans e
  refine wpAny_bind (wpAny_letGo (wpAny_pure (show _ from ?_)))
  refine wpAny_bind (wpAny_bind (wpAny_onRaise (show _ from ?_))); change wpAny _ _ (Builtin.SmallTypes.nextOf (.ref i2) >>= _) _ _ _
  refine wpAny_bind ((D2 _ (by first | exact hh | simp [hh])).item k { s with heap := hc, toks := tb } _ _ h2 s2c fun y hd td py s2d sd => wpAny_pure (show _ from ?_))
  replace sd : Heap.SameBut i2 hc hd := sd
  have TOd : IsPair hd TO x b := (sd.2 TO t2).trans TOc
  refine wpAny_bind (wpAny_seqItems TOd rfl (wpAny_bind (wpAny_updateSeq_pair TOd fun he TOe se => show _ from ?_)))
  replace TOe : IsPair he TO x y := TOe
  refine wpAny_bind (wpAny_letGo (wpAny_pure (wpAny_pure (show _ from ?_))))
  refine wpAny_bind (wpAny_seqItems TOe rfl (wpAny_bind (wpAny_newTuple (show _ from ?_))))
  have sz : he.objs.size = s.heap.objs.size := by rw [se.1, sd.1, sc.1, sb.1, sa.1]
  have keep : ∀ c o, c ≠ z → c ≠ TO → c ≠ i1 → c ≠ i2 → s.heap.get? c = some o → he.get? c = some o := fun c o c1 c2 c3 c4 e => (se.2 c c2).trans ((sd.2 c c4).trans ((sc.2 c c2).trans ((sb.2 c c3).trans ((sa.2 c c1).trans e))))
  have ze : IsZip he z TI TO .ellipsis := (se.2 z ap.zTO).trans ((sd.2 z z2).trans ((sc.2 z ap.zTO).trans ((sb.2 z z1).trans za)))
  have s1e : St1 (k + 1) he := (D1 A hh).frame _ _ _ ((D1 A hh).frame _ _ _ s1c fun c hm o e => (sd.2 c fun q => ap.x2 (q ▸ hm)).trans e) fun c hm o e => (se.2 c fun q => ap.t1 (q ▸ hm)).trans e
  have s2e : St2 (k + 1) he := (D2 A hh).frame _ _ _ s2d fun c hm o e => (se.2 c fun q => ap.t2 (q ▸ hm)).trans e
  have zlt : z < he.objs.size := Heap.lt_size ze
  change wpAny _ _ (Builtin.SmallTypes.ownedTupleHandOut (.ref z) (.ref he.objs.size) >>= _) _ _ _
  refine wpAny_bind (show _ from ?_); unfold Builtin.SmallTypes.ownedTupleHandOut
  have zf : IsZip (he.push { cls := .type "tuple", data := .seq #[x, y] }) z TI TO .ellipsis := Heap.get?_push_of_some _ ze
  refine wpAny_bind (wpAny_setField_rec zf (by simp) fun hg zg sg => show _ from ?_)
  replace zg : IsZip hg z TI TO (rawInt he.objs.size) := zg
  refine wpAny_setField_rec zg (by simp) fun hi zi si => show _ from ?_
  replace zi : IsZip hi z TI TO (rawInt he.objs.size) := zi
  have up : ∀ c o, c ≠ z → he.get? c = some o → hi.get? c = some o := fun c o c1 e => (si.2 c c1).trans ((sg.2 c c1).trans (Heap.get?_push_of_some _ e))
  have Ti : IsPair hi he.objs.size x y := (si.2 _ (Nat.ne_of_gt zlt)).trans ((sg.2 _ (Nat.ne_of_gt zlt)).trans (Heap.get?_push_size _ rfl))
  rw [sz] at zi Ti
  refine wpAny_pure ⟨_, rfl, show Q (.ref he.objs.size) _ from ?_⟩
  rw [sz]
  exact hQ hi _ x y px py zi (up _ _ ap.zTO.symm TOe) ((D1 A hh).frame _ _ _ s1e fun c hm o e => up c o (fun q => ap.z1 (q ▸ hm)) e) ((D2 A hh).frame _ _ _ s2e fun c hm o e => up c o (fun q => ap.z2 (q ▸ hm)) e) Ti fun c o c1 c2 c3 c4 e => up c o c1 (keep c o c1 c2 c3 c4 e)
theorem zipD_end {Q : Fin → Shared → Prop} (hh : A.handled = none) (D1 : ∀ A1 : Around, A1.handled = none → Draws P w A1 i1 f1 n1 P1 St1) (D2 : ∀ A1 : Around, A1.handled = none → Draws P w A1 i2 f2 n2 P2 St2) (ap : ZipA z TI TO i1 i2 f1 f2)
    (hz : IsZip s.heap z TI TO .none) (hTI : IsPair s.heap TI (.ref i1) (.ref i2)) (hTO : IsPair s.heap TO a b) (s1 : St1 k s.heap) (s2 : St2 k s.heap) (h1 : k = n1 ∨ (k < n1 ∧ k = n2))
    (hE : ∀ h5 tk e, (∀ c o, c ≠ z → c ≠ TO → c ≠ i1 → c ≠ i2 → s.heap.get? c = some o → h5.get? c = some o) → (∃ o, h5.get? e = some o ∧ o.cls = .type "StopIteration") → E (.ref e) { s with heap := h5, toks := tk }) :
    wpAny (model P w) A (Builtin.«zip.__next__» ⟨[.ref z], []⟩) Q E s := by
  have z1 := ne_in ap.z1 ap.m1; have z2 := ne_in ap.z2 ap.m2; have t1 := ne_in ap.t1 ap.m1; have t2 := ne_in ap.t2 ap.m2; have x12 : i1 ≠ i2 := ne_in ap.x1 ap.m2
  change wpAny _ _ (field (.ref z) 2 >>= _) _ _ _
  refine wpAny_bind (wpAny_field hz rfl (x := .bool false) rfl (show _ from ?_)); change wpAny _ _ (field (.ref z) 3 >>= _) _ _ _
  refine wpAny_bind (wpAny_field hz rfl (x := .ref TI) rfl (wpAny_bind (wpAny_seqItems hTI rfl (show _ from ?_)))); change wpAny _ _ (Builtin.SmallTypes.ownedTupleIsFree (.ref z) >>= _) _ _ _
  refine wpAny_bind (show _ from ?_); unfold Builtin.SmallTypes.ownedTupleIsFree
  refine wpAny_bind (wpAny_field hz rfl (x := .none) rfl (wpAny_pure (show _ from ?_))); simp only [if_true]
  refine wpAny_bind (wpAny_rule (wpAny_bind (wpAny_field hz rfl (x := .ref TO) rfl (wpAny_bind (wpAny_setField_rec hz (by simp) fun ha za sa => show _ from ?_)))))
  replace za : IsZip ha z TI TO .ellipsis := za
  refine wpAny_bind (show _ from ?_); simp only [List.zipIdx_cons, List.zipIdx_nil, List.forIn_cons, List.forIn_nil]
  refine wpAny_bind (wpAny_bind (wpAny_onRaise (show _ from ?_))); change wpAny _ _ (Builtin.SmallTypes.nextOf (.ref i1) >>= _) _ _ _
  have s1a : St1 k ha := (D1 A hh).frame k _ _ s1 fun c hc o e => (sa.2 c fun q => ap.z1 (q ▸ hc)).trans e
  have s2a : St2 k ha := (D2 A hh).frame k _ _ s2 fun c hc o e => (sa.2 c fun q => ap.z2 (q ▸ hc)).trans e
  rcases h1 with rfl | ⟨h1, rfl⟩
  · refine wpAny_bind ((D1 _ (by first | exact hh | simp [hh])).done { s with heap := ha } _ _ s1a fun hb e sb he => show _ from ?_)
    replace sb : Heap.ExtBut i1 ha hb := sb
    obtain ⟨oe, hoe, hce⟩ := he
    have zb : IsZip hb z TI TO .ellipsis := sb _ _ z1 za
    have nez : e ≠ z := fun q => by subst q; rw [zb] at hoe; cases hoe; simp at hce
    exact wpAny_setField_rec zb (by simp) fun hc _ sc => hE hc _ e (fun c o c1 _ c3 _ q => (sc.2 c c1).trans (sb _ _ c3 ((sa.2 c c1).trans q))) ⟨oe, (sc.2 e nez).trans hoe, hce⟩
  · refine wpAny_bind ((D1 _ (by first | exact hh | simp [hh])).item k { s with heap := ha } _ _ h1 s1a fun x hb tb px s1b sb => wpAny_pure (show _ from ?_))
    replace sb : Heap.SameBut i1 ha hb := sb
    have s2b : St2 k hb := (D2 A hh).frame k _ _ s2a fun c hc o e => (sb.2 c fun q => ap.x1 (q ▸ hc)).trans e
    have TOb : IsPair hb TO a b := (sb.2 TO t1).trans ((sa.2 TO ap.zTO.symm).trans hTO)
    refine wpAny_bind (wpAny_seqItems TOb rfl (wpAny_bind (wpAny_updateSeq_pair TOb fun hc TOc sc => show _ from ?_)))
    have s2c : St2 k hc := (D2 A hh).frame _ _ _ s2b fun c hm o e => (sc.2 c fun q => ap.t2 (q ▸ hm)).trans e
    refine wpAny_bind (wpAny_letGo (wpAny_pure (show _ from ?_)))
    refine wpAny_bind (wpAny_bind (wpAny_onRaise (show _ from ?_))); change wpAny _ _ (Builtin.SmallTypes.nextOf (.ref i2) >>= _) _ _ _
    refine wpAny_bind ((D2 _ (by first | exact hh | simp [hh])).done { s with heap := hc, toks := tb } _ _ s2c fun hd e sd he => show _ from ?_)
    replace sd : Heap.ExtBut i2 hc hd := sd
    obtain ⟨oe, hoe, hce⟩ := he
    have zd : IsZip hd z TI TO .ellipsis := sd _ _ z2 ((sc.2 z ap.zTO).trans ((sb.2 z z1).trans za))
    have nez : e ≠ z := fun q => by subst q; rw [zd] at hoe; cases hoe; simp at hce
    exact wpAny_setField_rec zd (by simp) fun hf _ sf => hE hf _ e (fun c o c1 c2 c3 c4 q => (sf.2 c c1).trans (sd _ _ c4 ((sc.2 c c2).trans ((sb.2 c c3).trans ((sa.2 c c1).trans q))))) ⟨oe, (sf.2 e nez).trans hoe, hce⟩
theorem pyNext_zipD_item {Q : Option Value → Shared → Prop} (hh : A.handled = none) (D1 : ∀ A1 : Around, A1.handled = none → Draws P w A1 i1 f1 n1 P1 St1) (D2 : ∀ A1 : Around, A1.handled = none → Draws P w A1 i2 f2 n2 P2 St2) (ap : ZipA z TI TO i1 i2 f1 f2)
    (hz : IsZip s.heap z TI TO .none) (hTI : IsPair s.heap TI (.ref i1) (.ref i2)) (hTO : IsPair s.heap TO a b) (s1 : St1 k s.heap) (s2 : St2 k s.heap) (h1 : k < n1) (h2 : k < n2)
    (hQ : ∀ h5 tk x y, P1 k x → P2 k y → IsZip h5 z TI TO (rawInt s.heap.objs.size) → IsPair h5 TO x y → St1 (k + 1) h5 → St2 (k + 1) h5 → IsPair h5 s.heap.objs.size x y →
      (∀ c o, c ≠ z → c ≠ TO → c ≠ i1 → c ≠ i2 → s.heap.get? c = some o → h5.get? c = some o) → Q (some (.ref s.heap.objs.size)) { s with heap := h5, toks := tk }) : wpAny (model P w) A (pyNext (.ref z)) Q E s := by
  have hT : s.TypeIs (.ref z) "zip" := ⟨_, hz, rfl⟩
  unfold pyNext
  exact wpAny_bind (wpAny_attempt (wpAny_callSpecial?_slot (name := Str.ofString "__next__") hT F.slot_zip_next (wpAny_call_entry F.slot_zip_next hT F.entry_zip_next
    (zipD_item (by first | exact hh | simp [hh]) D1 D2 ap hz hTI hTO s1 s2 h1 h2 fun h5 tk x y q1 q2 q3 q4 q5 q6 q7 q8 => wpAny_pure (hQ h5 tk x y q1 q2 q3 q4 q5 q6 q7 q8)) (F.args_zip_next_1 _))))
theorem pyNext_zipD_end {Q : Option Value → Shared → Prop} (hh : A.handled = none) (D1 : ∀ A1 : Around, A1.handled = none → Draws P w A1 i1 f1 n1 P1 St1) (D2 : ∀ A1 : Around, A1.handled = none → Draws P w A1 i2 f2 n2 P2 St2) (ap : ZipA z TI TO i1 i2 f1 f2)
    (hz : IsZip s.heap z TI TO .none) (hTI : IsPair s.heap TI (.ref i1) (.ref i2)) (hTO : IsPair s.heap TO a b) (s1 : St1 k s.heap) (s2 : St2 k s.heap) (h1 : k = n1 ∨ (k < n1 ∧ k = n2))
    (hQ : ∀ h5 tk, (∀ c o, c ≠ z → c ≠ TO → c ≠ i1 → c ≠ i2 → s.heap.get? c = some o → h5.get? c = some o) → Q none { s with heap := h5, toks := tk }) : wpAny (model P w) A (pyNext (.ref z)) Q E s := by
  have hT : s.TypeIs (.ref z) "zip" := ⟨_, hz, rfl⟩
  unfold pyNext
  refine wpAny_bind (wpAny_attempt (wpAny_callSpecial?_slot (name := Str.ofString "__next__") hT F.slot_zip_next (wpAny_call_entry F.slot_zip_next hT F.entry_zip_next
    (zipD_end (by first | exact hh | simp [hh]) D1 D2 ap hz hTI hTO s1 s2 h1 fun h5 tk e keep he => show _ from ?_) (F.args_zip_next_1 _))))
  obtain ⟨o, ho, hc⟩ := he
  exact wpAny_bind (wpAny_isInstance (T := "StopIteration") (b := true) ⟨o, ho, hc⟩ isSubtype_stop (wpAny_pure (hQ h5 tk keep)))
end

/-! ### for a, b in zip(text, text) -/
section
variable {P : Program} {w : World} {A : Around} {E : Value → Shared → Prop} {s : Shared}
abbrev strItO (x : Str) (t : Tok) : Obj := { cls := .type (strIterType x), data := .fields #[.str x t, .int 0 0] }
abbrev zh1 (h : Heap) (x : Str) (t : Tok) : Heap := h.push (strItO x t)
abbrev zh2 (h : Heap) (x y : Str) (t u : Tok) : Heap := (zh1 h x t).push (strItO y u)
abbrev zh3 (h : Heap) (x y : Str) (t u : Tok) : Heap := (zh2 h x y t u).push { cls := .type "tuple", data := .seq #[.ref h.objs.size, .ref (zh1 h x t).objs.size] }
abbrev zh4 (h : Heap) (x y : Str) (t u : Tok) : Heap := (zh3 h x y t u).push { cls := .type "tuple", data := .seq #[.none, .none] }
abbrev zh5 (h : Heap) (x y : Str) (t u : Tok) : Heap := (zh4 h x y t u).push { cls := .type "zip", data := .fields #[.none, .bool false, .bool false, .ref (zh2 h x y t u).objs.size, .ref (zh3 h x y t u).objs.size] }
theorem drawsText (x : Str) (t : Tok) (it : Addr) : ∀ A1 : Around, A1.handled = none → Draws P w A1 it [it] x.cps.size (fun i v => ∃ c u, x.cps[i]? = some c ∧ v = .str ⟨#[c]⟩ u) (fun i h => h.IsStrIter it (strIterType x) x t i) := fun A1 hh => by
  unfold strIterType
  split
  · exact Draws.strAscii hh it x t
  · exact Draws.strWide hh it x t
set_option maxHeartbeats 4000000 in
theorem meets_zipSS (x y : Str) (t u : Tok) : Meets (Builtin.«zip.__new__» ⟨[.type "zip", .str x t, .str y u], []⟩) (fun _ R s => R (.ok (.ret (.ref (zh4 s.heap x y t u).objs.size))) { s with heap := zh5 s.heap x y t u }) :=
  .of_wp fun prog w A R s h => by
    obtain ⟨hp, g, d, tk, os⟩ := s
    have sb := sub_zip
    wp_walk using wpAny_pyIter_strU
    exact ⟨_, rfl, h⟩
theorem call_zipSS {x y : Str} {t u : Tok} {Q : Value → Shared → Prop}
    (h : ∀ h1, IsZip h1 (s.heap.objs.size + 4) (s.heap.objs.size + 2) (s.heap.objs.size + 3) .none → IsPair h1 (s.heap.objs.size + 2) (.ref s.heap.objs.size) (.ref (s.heap.objs.size + 1)) → IsPair h1 (s.heap.objs.size + 3) .none .none →
      h1.IsStrIter s.heap.objs.size (strIterType x) x t 0 → h1.IsStrIter (s.heap.objs.size + 1) (strIterType y) y u 0 → (∀ c o, s.heap.get? c = some o → h1.get? c = some o) → Q (.ref (s.heap.objs.size + 4)) { s with heap := h1 }) :
    wpAny (model P w) A (call (.type "zip") [.str x t, .str y u]) Q E s := by
  refine callType_new F.called_zip (by decide) (F.typeCall_zip_2 _ _) (F.newCall_zip_2 _ _) (fun obj => F.args_object_init_3 obj _ _) F.entry_zip_new (meets_zipSS x y t u) (show _ ∧ _ from ?_)
  have n1 : (zh1 s.heap x t).objs.size = s.heap.objs.size + 1 := Heap.size_push ..
  have n2 : (zh2 s.heap x y t u).objs.size = s.heap.objs.size + 2 := by rw [Heap.size_push, n1]
  have n3 : (zh3 s.heap x y t u).objs.size = s.heap.objs.size + 3 := by rw [Heap.size_push, n2]
  have n4 : (zh4 s.heap x y t u).objs.size = s.heap.objs.size + 4 := by rw [Heap.size_push, n3]
  have e5 : (zh5 s.heap x y t u).get? (zh4 s.heap x y t u).objs.size = some _ := Heap.get?_push_size _ rfl
  have e4 : (zh5 s.heap x y t u).get? (zh3 s.heap x y t u).objs.size = some _ := Heap.get?_push_of_some _ (Heap.get?_push_size _ rfl)
  have e3 : (zh5 s.heap x y t u).get? (zh2 s.heap x y t u).objs.size = some _ := Heap.get?_push_of_some _ (Heap.get?_push_of_some _ (Heap.get?_push_size _ rfl))
  have e2 : (zh5 s.heap x y t u).get? (zh1 s.heap x t).objs.size = some (strItO y u) := Heap.get?_push_of_some _ (Heap.get?_push_of_some _ (Heap.get?_push_of_some _ (Heap.get?_push_size _ rfl)))
  have e1 : (zh5 s.heap x y t u).get? s.heap.objs.size = some (strItO x t) := Heap.get?_push_of_some _ (Heap.get?_push_of_some _ (Heap.get?_push_of_some _ (Heap.get?_push_of_some _ (Heap.get?_push_size _ rfl))))
  rw [n2, n3, n4] at e5; rw [n1, n2] at e3; rw [n3] at e4; rw [n1] at e2; rw [n4]
  exact ⟨⟨_, e5, rfl⟩, h _ e5 e3 e4 ⟨_, e1, rfl, rfl⟩ ⟨_, e2, rfl, rfl⟩ fun c o q => Heap.get?_push_of_some _ (Heap.get?_push_of_some _ (Heap.get?_push_of_some _ (Heap.get?_push_of_some _ (Heap.get?_push_of_some _ q))))⟩
end
/-- the two texts in step -/
def ItzS (l m : List Nat) : It :=
  ⟨fun i _ => i < min l.length m.length, fun i H v H1 => ∃ T c d, v = .ref T ∧ H T = none ∧ H1 = upd H T (.tup [.str (S [c]), .str (S [d])]) ∧ l[i]? = some c ∧ m[i]? = some d, fun i _ => i = min l.length m.length⟩
theorem walk_zipS {l m : List Nat} {n : Nat} (hn : n = min l.length m.length) : Walk (ItzS l m) n (fun _ => True) (YPair (fun i => l[i]?.map fun c => .str (S [c])) (fun i => m[i]?.map fun c => .str (S [c]))) := by
  subst hn
  refine ⟨fun i _ hi _ => hi, fun _ _ => rfl, fun i H v H1 _ _ y => ?_⟩
  obtain ⟨T, c, d, h1, h2, h3, h4, h5⟩ := y
  exact ⟨T, _, _, h1, h2, h3, by show l[i]?.map _ = _; rw [h4]; rfl, by show m[i]?.map _ = _; rw [h5]; rfl⟩
theorem apart5 (n : Nat) : ZipA (n + 4) (n + 2) (n + 3) n (n + 1) [n] [n + 1] :=
  have key : ∀ a b : Nat, a ≠ b → a ∉ ([b] : List Addr) := fun a b h m => h (List.mem_singleton.mp m)
  have nn : ∀ a b : Nat, a ≠ b → (show Addr from a) ≠ b := fun a b h => h
  ⟨key _ _ (by omega), key _ _ (by omega), key _ _ (by omega), key _ _ (by omega), key _ _ (by omega), key _ _ (by omega), key _ _ (by omega), key _ _ (by omega), List.mem_cons_self, List.mem_cons_self, nn _ _ (by omega), nn _ _ (by omega), nn _ _ (by omega)⟩
theorem turn_zipS {P : Program} {w : World} {K : PySem.W.Frag} {elts : List Expr} {kk : Nat} {tpos : Pos} {l m : List Nat} {t u : Tok} {z TI TO i1 i2 : Addr} (D : ZipA z TI TO i1 i2 [i1] [i2]) :
    Turn P w K (.Tuple elts kk tpos) (ItzS l m) [z, TI, TO, i1, i2] z (fun i h => IsZip h z TI TO .none ∧ IsPair h TI (.ref i1) (.ref i2) ∧ (∃ x y, IsPair h TO x y) ∧ h.IsStrIter i1 (strIterType (S l)) (S l) t i ∧ h.IsStrIter i2 (strIterType (S m)) (S m) u i) where
  mem := by simp
  obj := fun i h st c hc => by
    obtain ⟨hz, hTI, ⟨x, y, hTO⟩, ⟨o1, e1, _, d1⟩, ⟨o2, e2, _, d2⟩⟩ := st
    simp only [List.mem_cons, List.not_mem_nil, or_false] at hc
    rcases hc with q | q | q | q | q <;> subst q
    · exact ⟨_, hz, fun v q => nomatch q⟩
    · exact ⟨_, hTI, fun v q => nomatch q⟩
    · exact ⟨_, hTO, fun v q => nomatch q⟩
    · exact ⟨o1, e1, fun v q => by rw [d1] at q; cases q⟩
    · exact ⟨o2, e2, fun v q => by rw [d2] at q; cases q⟩
  keep := fun i h h1 st k => by
    obtain ⟨hz, hTI, ⟨x, y, hTO⟩, ⟨o1, e1, r1⟩, ⟨o2, e2, r2⟩⟩ := st
    exact ⟨k z (by simp) _ hz, k TI (by simp) _ hTI, ⟨x, y, k TO (by simp) _ hTO⟩, ⟨o1, k i1 (by simp) _ e1, r1⟩, ⟨o2, k i2 (by simp) _ e2, r2⟩⟩
  item := by
    intro X hP hw hK hc i pins s σ H E I hf st hg
    subst hP hw hK
    obtain ⟨hz, hTI, ⟨x0, y0, hTO⟩, h1, h2⟩ := st
    have hg : i < min l.length m.length := hg
    have g1 : i < (S l).cps.size := by simp [S]; omega
    have g2 : i < (S m).cps.size := by simp [S]; omega
    have zl : z < s.heap.objs.size := Heap.lt_size hz
    refine pyNext_zipD_item (I.ok.hd hc) (drawsText (S l) t i1) (drawsText (S m) u i2) D hz hTI hTO h1 h2 g1 g2 fun h5 tk x y q1 q2 z5 TO5 a1 a2 hT keep => ?_
    obtain ⟨c, u1, hc1, rfl⟩ := q1
    obtain ⟨d, u2, hd1, rfl⟩ := q2
    refine ⟨_, rfl, wpAny_letOwnedTupleGo_zip (s := { s with heap := h5, toks := tk }) z5 fun h6 z6 sb => ?_⟩
    have hT2 : h6.get? s.heap.objs.size = some { cls := .type "tuple", data := .seq #[.str (S [c]) u1, .str (S [d]) u2] } := (sb.2 _ (Nat.ne_of_gt zl)).trans hT
    have new : ObjOk X.prog X.w (upd H s.heap.objs.size (.tup [.str (S [c]), .str (S [d])])) h6 s.heap.objs.size (.tup [.str (S [c]), .str (S [d])]) :=
      ⟨by show 2 ≤ sizeLine; decide, [.str (S [c]) u1, .str (S [d]) u2], .cons ⟨u1, rfl⟩ (.cons ⟨u2, rfl⟩ .nil), ⟨_, hT2, rfl, _, rfl⟩⟩
    have I1 : Inv X pins σ (upd H s.heap.objs.size (.tup [.str (S [c]), .str (S [d])])) { s with heap := h6, toks := tk } :=
      I.turnedNew (t' := tk) (ch := [z, TI, TO, i1, i2]) (fun c o hb q => (sb.2 c (fun e => hb (by simp [e]))).trans (keep c o (fun e => hb (by simp [e])) (fun e => hb (by simp [e])) (fun e => hb (by simp [e])) (fun e => hb (by simp [e])) q)) hf (Nat.le_refl _) new
    have nz1 : i1 ≠ z := (ne_in D.z1 D.m1).symm
    have nz2 : i2 ≠ z := (ne_in D.z2 D.m2).symm
    refine ⟨.ref s.heap.objs.size, _, I1, rfl, ⟨_, c, d, rfl, I.hok.fresh (Nat.le_refl _), rfl, by rw [← hc1]; simp [S], by rw [← hd1]; simp [S]⟩, ⟨z6, ?_, ⟨.str (S [c]) u1, .str (S [d]) u2, ?_⟩, ?_, ?_⟩, fun c hm => ?_⟩
    · exact (sb.2 _ D.zTI.symm).trans (keep _ _ D.zTI.symm D.TIO (ne_in D.u1 D.m1) (ne_in D.u2 D.m2) hTI)
    · exact (sb.2 _ D.zTO.symm).trans TO5
    · obtain ⟨o, e, r⟩ := a1; exact ⟨o, (sb.2 _ nz1).trans e, r⟩
    · obtain ⟨o, e, r⟩ := a2; exact ⟨o, (sb.2 _ nz2).trans e, r⟩
    · have lt : c < s.heap.objs.size := by
        simp only [List.mem_cons, List.not_mem_nil, or_false] at hm
        rcases hm with q | q | q | q | q <;> subst q
        · exact zl
        · exact Heap.lt_size hTI
        · exact Heap.lt_size hTO
        · obtain ⟨_, e, _⟩ := h1; exact Heap.lt_size e
        · obtain ⟨_, e, _⟩ := h2; exact Heap.lt_size e
      rw [upd_ne (Nat.ne_of_lt lt)]
      exact (hf c hm).1
  done := by
    intro X hP hw hK hc i pins s σ H E I hf st hg
    subst hP hw hK
    obtain ⟨hz, hTI, ⟨x0, y0, hTO⟩, h1, h2⟩ := st
    have hg : i = min l.length m.length := hg
    have z1 : (S l).cps.size = l.length := by simp [S]
    have z2 : (S m).cps.size = m.length := by simp [S]
    exact pyNext_zipD_end (I.ok.hd hc) (drawsText (S l) t i1) (drawsText (S m) u i2) D hz hTI hTO h1 h2 (by rw [z1, z2]; omega) fun h5 tk keep => ⟨rfl, I.turnedL (t' := tk) (ch := [z, TI, TO, i1, i2]) (fun c o hb q =>
      keep c o (fun e => hb (by simp [e])) (fun e => hb (by simp [e])) (fun e => hb (by simp [e])) (fun e => hb (by simp [e])) q) hf⟩
  self := fun A i s Q E st h => wpAny_pyIter_zip st.1 h
def iZipS (ta : TA) : TI := fun σ H R => ta σ H fun vs H1 => ∃ l m : List Nat, vs = [.str (S l), .str (S m)] ∧ R (ItzS l m) H1
theorem pi_zipS {X : Cx} {e e2 : Expr} {ta : TA} {p pos tpos : Pos} {elts : List Expr} {kk : Nat} (hg : Gl X "zip") (hm : X.mg "zip" = none) (ha : PA X [e, e2] ta)
    (hs : starEach [e, e2] X.env = (false, eval e X.env) :: starEach [e2] X.env := by rfl) (hpl : (backTo pos (starEach [e2] X.env)).any (·.1) = false := by rfl) :
    PI X (.Tuple elts kk tpos) (.Call (.Name "zip" p) [e, e2] [] pos) (iZipS ta) := by
  refine ⟨fun pins s σ H R I h => Call_ (ld_blt I hg hm PyProof.Rows.boot_zip (PyProof.Rows.callWith_type1 (thn (ha.run pos pins s σ H _ I h) fun us s1 ⟨vs, H1, I1, r1, q1⟩ => ?_) hs hpl))⟩
  obtain ⟨l, m, rfl, q⟩ := q1
  cases r1 with
  | cons r rr =>
    cases rr with
    | cons r2 rr =>
      cases rr
      obtain ⟨t, rfl⟩ := r
      obtain ⟨u, rfl⟩ := r2
      refine call_zipSS fun h1 hz hTI hTO a1 a2 keep => wpAny_pyIter_zip hz ?_
      refine ⟨s1.heap.objs.size + 4, [s1.heap.objs.size + 4, s1.heap.objs.size + 2, s1.heap.objs.size + 3, s1.heap.objs.size, s1.heap.objs.size + 1], _, _, H1, rfl, I1.kept (t' := s1.toks) keep, turn_zipS (apart5 s1.heap.objs.size), ⟨hz, hTI, ⟨_, _, hTO⟩, a1, a2⟩, fun c hc => ?_, q⟩
      have le : s1.heap.objs.size ≤ c := by
        simp only [List.mem_cons, List.not_mem_nil, or_false] at hc
        rcases hc with q | q | q | q | q <;> rw [q] <;> first | exact Nat.le_refl _ | exact Nat.le_add_right _ _
      exact I1.fpOk le (I1.hok.fresh le)

/-! ### for k, c in enumerate(text) -/
def IteS (l : List Nat) : It :=
  ⟨fun i _ => i < l.length, fun i H v H1 => ∃ T c, v = .ref T ∧ H T = none ∧ H1 = upd H T (.tup [.int (i : Nat), .str (S [c])]) ∧ l[i]? = some c, fun i _ => i = l.length⟩
theorem walk_enumS {l : List Nat} {n : Nat} (hn : n = l.length) : Walk (IteS l) n (fun _ => True) (YPair (fun i => some (V.int (i : Nat))) (fun i => l[i]?.map fun c => .str (S [c]))) := by
  subst hn
  refine ⟨fun i _ hi _ => hi, fun _ _ => rfl, fun i H v H1 _ _ y => ?_⟩
  obtain ⟨T, c, h1, h2, h3, h4⟩ := y
  exact ⟨T, _, _, h1, h2, h3, rfl, by show l[i]?.map _ = _; rw [h4]; rfl⟩
theorem turn_enumS {P : Program} {w : World} {K : PySem.W.Frag} {elts : List Expr} {kk : Nat} {tpos : Pos} {l : List Nat} {t : Tok} (e it : Addr) :
    Turn P w K (.Tuple elts kk tpos) (IteS l) [e, it] e (fun i h => (∃ old, IsEnum h e it ((i : Nat) : Int) old) ∧ h.IsStrIter it (strIterType (S l)) (S l) t i ∧ e ≠ it) where
  mem := by simp
  obj := fun i h st b hb => by
    obtain ⟨⟨old, he⟩, ⟨o, ho, hc, hd⟩, _⟩ := st
    have e' : b = e ∨ b = it := by simpa using hb
    rcases e' with z | z
    · rw [z]; exact ⟨_, he, fun v q => nomatch q⟩
    · rw [z]; exact ⟨o, ho, fun v q => by rw [hd] at q; cases q⟩
  keep := fun i h h' st k => let ⟨⟨old, he⟩, ⟨o, ho, r⟩, hne⟩ := st; ⟨⟨old, k e (by simp) _ he⟩, ⟨o, k it (by simp) _ ho, r⟩, hne⟩
  item := by
    intro X hP hw hK hc i pins s σ H E I hf st hg
    subst hP hw hK
    obtain ⟨⟨old, he⟩, hit, hne⟩ := st
    have hg : i < l.length := hg
    have g1 : i < (S l).cps.size := by simp [S]; omega
    have hel : e < s.heap.objs.size := Heap.lt_size he
    have hil : it < s.heap.objs.size := by obtain ⟨_, q, _⟩ := hit; exact Heap.lt_size q
    refine wpAny_pyNext_enum_itemD (drawsText (S l) t it _ (I.ok.hd hc)) he hit g1 hne (fun m => hne (List.mem_singleton.mp m)) fun x h' tk px ho hit' hT hsz hk => ?_
    obtain ⟨c, u1, hc1, rfl⟩ := px
    refine ⟨_, rfl, wpAny_letOwnedTupleGo_enum (s := { s with heap := h', toks := tk + 1 }) ho fun h'' he' sb => ?_⟩
    have hT2 : h''.get? s.heap.objs.size = some { cls := .type "tuple", data := .seq #[.int i tk, .str (S [c]) u1] } := (sb.2 _ (Nat.ne_of_gt hel)).trans hT
    have new : ObjOk X.prog X.w (upd H s.heap.objs.size (.tup [.int (i : Nat), .str (S [c])])) h'' s.heap.objs.size (.tup [.int (i : Nat), .str (S [c])]) :=
      ⟨by show 2 ≤ sizeLine; decide, [.int i tk, .str (S [c]) u1], .cons ⟨_, rfl⟩ (.cons ⟨u1, rfl⟩ .nil), ⟨_, hT2, rfl, _, rfl⟩⟩
    have I1 : Inv X pins σ (upd H s.heap.objs.size (.tup [.int (i : Nat), .str (S [c])])) { s with heap := h'', toks := tk + 1 } :=
      I.turnedNew (ch := [e, it]) (fun b ob hb q => (sb.2 b (fun z => hb (by simp [z]))).trans (hk b ob (fun z => hb (by simp [z])) (fun z => hb (by simp [z])) q)) hf (Nat.le_refl _) new
    refine ⟨.ref s.heap.objs.size, _, I1, rfl, ⟨_, c, rfl, I.hok.fresh (Nat.le_refl _), rfl, by rw [← hc1]; simp [S]⟩, ⟨⟨.str (S [c]) u1, ?_⟩, ?_, hne⟩, fun b hb => ?_⟩
    · have e1 : ((i + 1 : Nat) : Int) = (i : Int) + 1 := by omega
      rw [e1]; exact he'
    · obtain ⟨o, q, r⟩ := hit'
      exact ⟨o, (sb.2 it (Ne.symm hne)).trans q, r⟩
    · have hb' : b < s.heap.objs.size := by
        have e' : b = e ∨ b = it := by simpa using hb
        rcases e' with z | z
        · rw [z]; exact hel
        · rw [z]; exact hil
      rw [upd_ne (Nat.ne_of_lt hb')]
      exact (hf b hb).1
  done := by
    intro X hP hw hK hc i pins s σ H E I hf st hg
    subst hP hw hK
    obtain ⟨⟨old, he⟩, hit, hne⟩ := st
    have hg : i = l.length := hg
    have z1 : i = (S l).cps.size := by rw [hg]; simp [S]
    subst z1
    obtain ⟨f0, f1, f2, f3, f4, f5⟩ := hf it (by simp)
    exact wpAny_pyNext_enum_endD (drawsText (S l) t it _ (I.ok.hd hc)) he hit fun h' eb => ⟨rfl, I.turned (t' := s.toks) (fun b o hb q => eb b o hb q) f0 f1 f3 f4 f5⟩
  self := fun A i s Q E st h => let ⟨⟨_, he⟩, _⟩ := st; wpAny_pyIter_enum he h
def iEnumS (ta : TA) : TI := fun σ H R => ta σ H fun vs H1 => ∃ l : List Nat, vs = [.str (S l)] ∧ R (IteS l) H1
theorem pi_enumS {X : Cx} {e : Expr} {ta : TA} {p pos tpos : Pos} {elts : List Expr} {kk : Nat} (hg : Gl X "enumerate") (hm : X.mg "enumerate" = none) (ha : PA X [e] ta) (hs : starEach [e] X.env = [(false, eval e X.env)] := by rfl) :
    PI X (.Tuple elts kk tpos) (.Call (.Name "enumerate" p) [e] [] pos) (iEnumS ta) := by
  refine ⟨fun pins s σ H R I h => ?_⟩
  refine Call_ (ld_blt I hg hm boot_enumerate (PyProof.Rows.callWith_type1 (thn (ha.run pos pins s σ H _ I h) fun us s1 ⟨vs, H1, I1, r1, q1⟩ => ?_) hs rfl))
  obtain ⟨l, ex, q⟩ := q1
  subst ex
  cases r1 with
  | cons r rr =>
    cases rr
    obtain ⟨t, rfl⟩ := r
    refine call_enumerate_str fun h' he hit hsz hk => wpAny_pyIter_enum he ?_
    have I2 : Inv X pins σ H1 { s1 with heap := h' } := I1.kept (t' := s1.toks) hk
    refine ⟨s1.heap.objs.size + 1, [s1.heap.objs.size + 1, s1.heap.objs.size], _, _, H1, rfl, I2, turn_enumS (l := l) (t := t) (s1.heap.objs.size + 1) s1.heap.objs.size, ⟨⟨.none, he⟩, hit, Nat.succ_ne_self _⟩, fun b hb => ?_, q⟩
    have e' : b = s1.heap.objs.size + 1 ∨ b = s1.heap.objs.size := by simpa using hb
    have hle : s1.heap.objs.size ≤ b := by
      rcases e' with z | z
      · rw [z]; exact Nat.le_add_right _ _
      · rw [z]; exact Nat.le_refl _
    exact I1.fpOk hle (I1.hok.fresh hle)

/-! ### sorted(list of pairs of texts) -/
open PyProof.Rows.G in
def pairK (a : List Nat × List Nat) : List (Int ⊕ List Nat) := [.inr a.1, .inr a.2]
def ordK : KeyOrd := listOrd itemOrd
def SrtT (ks : List (List Nat × List Nat)) : Prop := ks.Pairwise fun a b => ordK.kle (pairK a) (pairK b)
theorem pairK_inj {a b : List Nat × List Nat} (h : pairK a = pairK b) : a = b := by
  unfold pairK at h
  obtain ⟨h1, h2⟩ := List.cons.inj h
  exact Prod.ext (Sum.inr.inj h1) (Sum.inr.inj (List.cons.inj h2).1)
theorem srtT_uniq : ∀ {l m : List (List Nat × List Nat)}, l.Perm m → SrtT l → SrtT m → l = m
  | [], m, p, _, _ => (List.Perm.eq_nil p.symm).symm
  | x :: l, [], p, _, _ => absurd p.length_eq (by simp)
  | x :: l, y :: m, p, hl, hm => by
    obtain ⟨l1, l2⟩ := List.pairwise_cons.mp hl
    obtain ⟨m1, m2⟩ := List.pairwise_cons.mp hm
    have h1 : ordK.kle (pairK y) (pairK x) := by
      rcases List.mem_cons.mp (p.mem_iff.mp (List.mem_cons_self (a := x) (l := l))) with e | h
      · rw [e]; exact KeyOrd.kle_refl _
      · exact m1 x h
    have h2 : ordK.kle (pairK x) (pairK y) := by
      rcases List.mem_cons.mp (p.mem_iff.mpr (List.mem_cons_self (a := y) (l := m))) with e | h
      · rw [e]; exact KeyOrd.kle_refl _
      · exact l1 y h
    obtain rfl : x = y := pairK_inj (KeyOrd.kle_antisymm h2 h1)
    rw [srtT_uniq p.cons_inv l2 m2]
def sh2 : Nat → Bool := fun _ => true
theorem pair_items {a b : List Nat} {t u : Tok} : tupItems sh2 0 (#[Value.str (S a) t, Value.str (S b) u] : Array Value).toList = some (pairK (a, b)) := by
  show some [Sum.inr (S a).cps.toList, Sum.inr (S b).cps.toList] = _
  rfl
theorem pair_key {h : Heap} {a : Addr} {o : Obj} {xs : Array Value} {n : Nat} {l : List (Int ⊕ List Nat)} (ho : h.get? a = some o) (hc : o.cls = .type "tuple") (hd : o.data = .seq xs n) (hi : tupItems sh2 0 xs.toList = some l) : PyProof.Rows.G.tupKeyC h sh2 (.ref a) = some l := by
  have e1 : PyProof.Rows.G.isTupObj h (.ref a) = true := by simp [PyProof.Rows.G.isTupObj, ho, hc]
  unfold PyProof.Rows.G.tupKeyC; rw [if_pos e1]; simp only [tupKey, ho, hd]; exact hi
theorem tups_of {h : Heap} : ∀ vs : List Value, (∀ v ∈ vs, ∃ f, TupOf h sh2 v f) → ∃ fs, TupsOf h sh2 vs fs
  | [], _ => ⟨[], .nil⟩
  | v :: r, k => by
    obtain ⟨f, hf⟩ := k v List.mem_cons_self
    obtain ⟨fs, hfs⟩ := tups_of r fun u hu => k u (List.mem_cons_of_mem _ hu)
    exact ⟨f :: fs, .cons hf hfs⟩
def rSortTT (K : PySem.W.Frag) : List V → Hp → VK → Prop := fun vs H Q => ∃ (a : Addr) (xs : List V) (key : V → List Nat × List Nat), vs = [V.ref a] ∧ SqL K H a xs ∧ (∀ x ∈ xs, ∃ t, x = V.ref t ∧ H t = some (.tup [.str (S (key x).1), .str (S (key x).2)])) ∧
  ∀ ys p, ys.Perm xs → SrtT (ys.map key) → H p = none → Q (.ref p) (upd H p (.lst ys))
theorem cr_sortTT {X : Cx} : CallR X (.builtin "sorted") (rSortTT X.K) := by
  intro pins s σ H vs us Q I r h
  obtain ⟨a, xs, key, rfl, hs, hx, q⟩ := h
  obtain ⟨its, rv, hl, hz⟩ := I.list hs
  obtain ⟨u, rfl, ru⟩ := vals1 r
  obtain rfl : u = Value.ref a := ru
  obtain ⟨e1, e2⟩ := refs_back rv fun x m => by
    obtain ⟨t, e, _⟩ := hx x m
    exact ⟨t, e⟩
  have tup : ∀ v ∈ its, ∃ b o n t1 t2, v = .ref b ∧ s.heap.get? b = some o ∧ o.cls = .type "tuple" ∧ o.data = .seq #[.str (S (key (backV v)).1) t1, .str (S (key (backV v)).2) t2] n := fun v hv => by
    obtain ⟨t, rfl⟩ := e2 v hv
    have hm : V.ref t ∈ xs := by rw [e1]; exact List.mem_map.mpr ⟨_, hv, rfl⟩
    obtain ⟨b, e, ht⟩ := hx _ hm
    cases e
    obtain ⟨_, its2, r2, o, ho, hc, n, hd⟩ := I.hok _ _ ht
    obtain ⟨u1, u2, rfl, ri, rj⟩ := vals2 r2
    obtain ⟨t1, rfl⟩ := ri
    obtain ⟨t2, rfl⟩ := rj
    exact ⟨t, o, n, t1, t2, rfl, ho, hc, hd⟩
  have kc : ∀ v ∈ its, PyProof.Rows.G.tupKeyC s.heap sh2 v = some (pairK (key (backV v))) := fun v hv => by
    obtain ⟨b, o, n, t1, t2, rfl, ho, hc, hd⟩ := tup v hv
    exact pair_key ho hc hd pair_items
  obtain ⟨fs, ht⟩ := tups_of (h := s.heap) its fun v hv => by
    obtain ⟨b, o, n, t1, t2, rfl, ho, hc, hd⟩ := tup v hv
    exact ⟨_, b, o, _, n, rfl, ho, hc, hd, rfl, fun e => (nomatch e), fun _ => ⟨_, _, rfl⟩⟩
  have hz2 : its.length ≤ sizeLine := by rw [← rv.length]; exact hz
  refine PyProof.Rows.G.sorted_tups hl.isList ht (fun v hv => ⟨_, kc v hv⟩) hz2 fun st hp hs _ => ?_
  have hp2 : (arrOf st).toList.Perm (its.zip its) := by rw [← pairsOf_toList]; exact Array.perm_iff_toList_perm.mp hp
  have mem : ∀ p ∈ (arrOf st).toList, p.1 = p.2 ∧ p.1 ∈ its := fun p hm => mem_zip_self (hp2.mem_iff.mp hm)
  have pz : ((arrOf st).map (·.2)).toList.Perm its := by
    rw [Array.toList_map]
    have z := hp2.map (·.2)
    rwa [List.map_snd_zip (Nat.le_refl _)] at z
  have h3 : ∀ u ∈ ((arrOf st).map (·.2)).toList, ∃ a, u = Value.ref a := fun u hu => e2 u (pz.mem_iff.mp hu)
  obtain ⟨ep, he⟩ := sortedAll_at s.heap its ((arrOf st).map (·.2))
  refine ⟨.ref (s.heap.objs.size + 1), upd H (s.heap.objs.size + 1) (.lst (((arrOf st).map (·.2)).toList.map backV)), I.laid (t' := s.toks) (fun _ _ => sortedAll_old) (Nat.le_succ _) ⟨?_, _, ep, vals_back h3, he⟩, rfl, q _ _ ?_ ?_ (I.hok.fresh (Nat.le_succ _))⟩
  · rw [List.length_map, pz.length_eq]; exact hz2
  · rw [e1]; exact pz.map backV
  · have sz : (pairsOf its).size = (arrOf st).toList.length := by rw [Array.length_toList]; exact hp.size_eq.symm
    rw [Array.toList_map, List.map_map, List.map_map]
    unfold SrtT
    rw [List.pairwise_map, List.pairwise_iff_getElem]
    intro i j hi hj hij
    have k := hs i j (Nat.le_of_lt hij) (by rw [sz]; exact hj)
    have at_ : ∀ m (hm : m < (arrOf st).toList.length), KK (PyProof.Rows.G.tupKindC s.heap sh2) (arrOf st) m = pairK (key (backV ((arrOf st).toList[m]).2)) := fun m hm => by
      have e : (arrOf st)[m]? = some ((arrOf st).toList[m]) := by rw [← Array.getElem?_toList]; exact List.getElem?_eq_getElem hm
      obtain ⟨p1, p2⟩ := mem _ (List.getElem_mem hm)
      unfold KK
      rw [e]
      show (PyProof.Rows.G.tupKeyC s.heap sh2 ((arrOf st).toList[m]).1).getD [] = _
      rw [kc _ p2, p1]
      rfl
    rw [at_ i hi, at_ j hj] at k
    exact k

/-! ### dicts made by a comprehension -/
theorem dc_it {J : It} {n : Nat} {G : Hp → Prop} {Y : Nat → Hp → V → Hp → Prop} (w : Walk J n G Y) {g : TG} {tt : TT} {tk tv : TE} {vs : List Nat} {σ : L2.St} {H1 : Hp} {D : Addr} {Qd : Hp → Prop} (Pv : Nat → Hp → Prop) (h0 : Pv 0 (upd H1 D (.dK []))) (hG : ∀ i H, i ≤ n → Pv i H → G H)
    (hs : ∀ i x H H', i < n → Pv i H → Y i H x H' → g x (wipe σ vs) H' fun σ2 H2 => wipe σ2 vs = wipe σ vs ∧ tt σ2 H2 fun b H3 =>
      if b = true then tk σ2 H3 fun y H4 => tv σ2 H4 fun z H5 => ∃ kvs k, y = kV k ∧ H5 D = some (.dK kvs) ∧ kvs.length < sizeLine ∧ Pv (i + 1) (upd H5 D (.dK (putK kvs k z))) else Pv (i + 1) H3) (hd : ∀ H, Pv n H → Qd H) :
    ∃ W : Nat → Nat → Hp → Prop, (∃ m, W 0 m (upd H1 D (.dK []))) ∧ ∀ i m H, W i m H →
      (J.stop i H ∧ Qd H) ∨ (J.go i H ∧ ∃ Nx : Hp → Prop, (∀ H', Nx H' → ∃ m', m' < m ∧ W (i + 1) m' H') ∧ ∀ x H', J.yld i H x H' → g x (wipe σ vs) H' fun σ2 H2 => wipe σ2 vs = wipe σ vs ∧ tt σ2 H2 fun b H3 =>
        if b = true then tk σ2 H3 fun y H4 => tv σ2 H4 fun z H5 => ∃ kvs k, y = kV k ∧ H5 D = some (.dK kvs) ∧ kvs.length < sizeLine ∧ Nx (upd H5 D (.dK (putK kvs k z))) else Nx H3) := by
  refine ⟨fun i m H => m = n - i ∧ i ≤ n ∧ Pv i H, ⟨n, by simp, Nat.zero_le _, h0⟩, fun i m H z => ?_⟩
  obtain ⟨rfl, hi, p⟩ := z
  have q := hG i H hi p
  by_cases lt : i < n
  · exact .inr ⟨w.goes i H lt q, Pv (i + 1), fun H1 p1 => ⟨n - (i + 1), by omega, rfl, lt, p1⟩, fun x H1 y => hs i x H H1 lt p (w.yields i H x H1 lt q y)⟩
  · obtain rfl : i = n := by omega
    exact .inl ⟨w.stops H q, hd H p⟩
theorem valV_none {α : Type} (kf : α → Key) (vf : α → V) (l : List α) (k : Key) (h : ∀ a ∈ l, kf a ≠ k) : valV (l.map fun a => (kf a, vf a)) k = none := by
  induction l with
  | nil => rfl
  | cons b r ih =>
    rw [List.map_cons, valV_neg (h b List.mem_cons_self)]
    exact ih fun a ha => h a (List.mem_cons_of_mem _ ha)
theorem valV_some {α : Type} (kf : α → Key) (vf : α → V) : ∀ (l : List α) (a : α), (∀ x ∈ l, ∀ y ∈ l, kf x = kf y → x = y) → a ∈ l → valV (l.map fun a => (kf a, vf a)) (kf a) = some (vf a)
  | b :: r, a, inj, h => by
    rw [List.map_cons]
    by_cases e : kf b = kf a
    · have : b = a := inj b List.mem_cons_self a h e
      subst this
      exact valV_pos rfl
    · rw [valV_neg e]
      rcases List.mem_cons.mp h with z | z
      · exact absurd (by rw [z]) e
      · exact valV_some kf vf r a (fun x hx y hy => inj x (List.mem_cons_of_mem _ hx) y (List.mem_cons_of_mem _ hy)) z
theorem dc_map {α : Type} {J : It} {G : Hp → Prop} {Y : Nat → Hp → V → Hp → Prop} (xs : List α) (kf : α → Key) (vf : α → V) (w : Walk J xs.length G Y) {g : TG} {tk tv : TE} {vs : List Nat} {σ : L2.St} {H1 : Hp} {D : Addr} {Qd : Hp → Prop}
    (hD : H1 D = none) (hn : xs.length ≤ 100000) (nd : xs.Nodup) (inj : ∀ x ∈ xs, ∀ y ∈ xs, kf x = kf y → x = y) (hG : ∀ H', Same H1 H' → G H')
    (hs : ∀ i a x H' H'' (R : V → V → Hp → Prop), xs[i]? = some a → Same H1 H' → Y i H' x H'' → (∀ H4, Same H' H4 → R (kV (kf a)) (vf a) H4) → g x (wipe σ vs) H'' fun σ2 H2 => wipe σ2 vs = wipe σ vs ∧ tk σ2 H2 fun y H3 => tv σ2 H3 fun z H4 => R y z H4)
    (hd : ∀ H', Same H1 H' → H' D = some (.dK (xs.map fun a => (kf a, vf a))) → Qd H') :
    ∃ W : Nat → Nat → Hp → Prop, (∃ m, W 0 m (upd H1 D (.dK []))) ∧ ∀ i m H, W i m H →
      (J.stop i H ∧ Qd H) ∨ (J.go i H ∧ ∃ Nx : Hp → Prop, (∀ H', Nx H' → ∃ m', m' < m ∧ W (i + 1) m' H') ∧ ∀ x H', J.yld i H x H' → g x (wipe σ vs) H' fun σ2 H2 => wipe σ2 vs = wipe σ vs ∧ tYes σ2 H2 fun b H3 =>
        if b = true then tk σ2 H3 fun y H4 => tv σ2 H4 fun z H5 => ∃ kvs k, y = kV k ∧ H5 D = some (.dK kvs) ∧ kvs.length < sizeLine ∧ Nx (upd H5 D (.dK (putK kvs k z))) else Nx H3) := by
  refine dc_it w (fun i H' => Same H1 H' ∧ H' D = some (.dK ((xs.take i).map fun a => (kf a, vf a)))) ⟨Same.new hD, upd_same⟩ (fun i H _ h => hG H h.1) (fun i x H' H'' hi h y => ?_) (fun H h => ?_)
  · obtain ⟨a, ha⟩ : ∃ a, xs[i]? = some a := ⟨_, List.getElem?_eq_getElem hi⟩
    have q := hs i a x H' H'' (fun y z H5 => ∃ kvs k, y = kV k ∧ H5 D = some (.dK kvs) ∧ kvs.length < sizeLine ∧ Same H1 (upd H5 D (.dK (putK kvs k z))) ∧ (upd H5 D (.dK (putK kvs k z))) D = some (.dK ((xs.take (i + 1)).map fun a => (kf a, vf a)))) ha h.1 y (fun H4 s => ?_)
    · exact q
    · have fresh : ∀ b ∈ xs.take i, kf b ≠ kf a := fun b hb e => by
        have hba := inj b (List.mem_of_mem_take hb) a (List.mem_of_getElem? ha) e
        subst hba
        obtain ⟨j, hj, e2⟩ := List.mem_iff_getElem.mp hb
        rw [List.getElem_take] at e2
        rw [List.length_take] at hj
        have e3 := (List.getElem?_eq_some_iff.mp ha).2
        exact absurd ((List.getElem_inj nd).mp (e2.trans e3.symm)) (by omega)
      refine ⟨_, _, rfl, s _ _ h.2, ?_, (h.1.trans s).own hD, ?_⟩
      · rw [List.length_map, List.length_take, sizeLine_eq]
        omega
      · rw [upd_same, putK_new _ (valV_none kf vf _ _ fresh), List.take_add_one, ha, Option.toList_some, List.map_append]
        rfl
  · rw [List.take_length] at h
    exact hd H h.1 h.2
/-! ### letters with numbers -/
def dnum (ls : List Nat) (f : Nat → Nat) : List (Key × V) := ls.map fun c => (Sum.inr (S [c]), V.int (f c))
theorem keyc_inj {c d : Nat} (h : (Sum.inr (S [c]) : Key) = Sum.inr (S [d])) : c = d := by
  have := SX.S_inj (Sum.inr.inj h)
  rw [List.cons.injEq] at this
  exact this.1
theorem dnum_get {ls : List Nat} {f : Nat → Nat} {c : Nat} (h : c ∈ ls) : valV (dnum ls f) (Sum.inr (S [c])) = some (.int (f c)) :=
  valV_some (fun c : Nat => (Sum.inr (S [c]) : Key)) (fun c => V.int (f c)) ls c (fun _ _ _ _ e => keyc_inj e) h
theorem dnum_at {H : Hp} {a : Addr} {ls : List Nat} {f : Nat → Nat} {c : Nat} (hA : Rd H a (.dK (dnum ls f))) (h : c ∈ ls) : DGet H a (.str (S [c])) (some (.int (f c))) :=
  .inl ⟨dnum ls f, Sum.inr (S [c]), hA, rfl, (dnum_get h).symm⟩
/-! ### name = {k: v for ..} on one line, the name a local -/
theorem swd_true {kx vx : Expr} {gs : List Comprehension} {scope : Scope} {pos py : Pos} {y : Str} {l : Nat} {env : Env} (hk : env.scope.kind = .function) (hy : env.scope.names.lookup y = some .local) (hl : (py.line == pos.line) = true)
    (ha : (scope.names.any fun (n, k) => n == y && (k == .local || k == .cell)) = false) : swapsWith (.DictComp kx vx gs scope pos) (some (.Name y py)) l env = pure true := by
  have ky : env.kindOf y = some .local := hy
  have kb : env.blockKind = .function := by unfold Env.blockKind; rw [hk]; rfl
  unfold swapsWith; simp only [kb, ky, ha, Expr.pos, hl]; rfl
theorem ps_setDc {X : Cx} {i : Nat} {y : Str} {py : Pos} {kx vx tg iter : Expr} {ifs : List Expr} {scope : Scope} {own : List (Str × Nat)} {pos spos : Pos} {wi : TI} {g : TG} {tt : TT} {tk tv : TE} (hc : X.calm = true) (hN : X.N.Nodup) (hy : X.N[i]? = some y) (hyl : X.env.scope.names.lookup y = some .local)
    (hsw : swapsWith (.DictComp kx vx [⟨tg, iter, ifs, 0⟩] scope pos) (some (.Name y py)) spos.line X.env = pure true) (hi : PI X tg iter wi) (ok : BlkOk X.N X.env.scope scope own)
    (hg : ∀ (s : Shared) (H : Hp) (C : Addr) (cl : List (Str × Addr)) (fp : List Addr), PG (X.blk s H scope (compEnvC scope cl C X.env) fp) tg g) (ht : ∀ (s : Shared) (H : Hp) (C : Addr) (cl : List (Str × Addr)) (fp : List Addr), PTs (X.blk s H scope (compEnvC scope cl C X.env) fp) ifs tt)
    (hk : ∀ (s : Shared) (H : Hp) (C : Addr) (cl : List (Str × Addr)) (fp : List Addr), PE (X.blk s H scope (compEnvC scope cl C X.env) fp) kx tk) (he : ∀ (s : Shared) (H : Hp) (C : Addr) (cl : List (Str × Addr)) (fp : List Addr), PE (X.blk s H scope (compEnvC scope cl C X.env) fp) vx tv)
    (hs : ∀ x, foldedSetIterable iter X.env x = pure x := by intro _; rfl) : PS X (.Assign [.Name y py] (.DictComp kx vx [⟨tg, iter, ifs, 0⟩] scope pos) spos) (tAsg (tDc wi g tt tk tv (own.map (·.2))) (gName i)) := by
  refine ⟨fun pins s σ H D I h => ?_⟩
  rw [exec_Assign_Name_used _ _ _ _ hsw]
  refine wpAny_bind (wpAny_standAt (wpAny_bind (show wpAny _ X.A (comprehension (.DictComp kx vx [⟨tg, iter, ifs, 0⟩] scope pos) scope X.env (firstIterPos [⟨tg, iter, ifs, 0⟩] pos) newDict false (eval iter X.env) (some (assign (.Name y py) X.env)) >>= fun _ => _) _ _ s from ?_)))
  have h : tDc wi g tt tk tv (own.map (·.2)) σ H (fun x H1 => gName i x σ H1 D.nx) := h
  refine wpAny_bind (thn (dc_core (Qf := fun _ s1 => SP X pins D .next s1) hc hN I hi ok hg ht hk he hs h fun L C s1 m H1 I1 q hn f => (show wpAny _ _ (assign (.Name y py) X.env (.ref L)) _ _ _ from ?_)) fun _ s1 hq => wpAny_pure (wpAny_pure hq))
  refine wpAny_assign_Name (store_ok2 (v := V.ref L) I1 hN hy (.inl hyl) rfl (fun s2 I2 ⟨a, sb, ha⟩ => ?_) (.inr hyl))
  obtain ⟨f0, f1, f2, f3, f4, f5⟩ := f
  have ne : C ≠ a := ha.elim (fun z => z ▸ f1) fun z e => f4 y a z e.symm
  exact ⟨m, hn.sameBut sb ne, fun h3 sb3 => ⟨_, H1, I2.turned (t' := s2.toks) (fun b o hb e => (sb3.2 b hb).trans e) f0 f1 f3 f4 f5, q⟩⟩
/-! ### a comprehension with a test whose turns change nothing -/
theorem lc_filt {α : Type} {J : It} {G : Hp → Prop} {Y : Nat → Hp → V → Hp → Prop} (xs : List α) (p : α → Bool) (f : α → V) (w : Walk J xs.length G Y) {g : TG} {tt : TT} {te : TE} {vs : List Nat} {σ : L2.St} {H1 : Hp} {D : Addr} {Qd : Hp → Prop}
    (hD : H1 D = none) (hn : xs.length ≤ 100000) (hG : ∀ H', Same H1 H' → G H')
    (hs : ∀ i a x H' H'' (R : VK) (N : Hp → Prop), xs[i]? = some a → Same H1 H' → Y i H' x H'' → (p a = true → ∀ H4, Same H' H4 → R (f a) H4) → (p a = false → ∀ H4, Same H' H4 → N H4) →
      g x (wipe σ vs) H'' fun σ2 H2 => wipe σ2 vs = wipe σ vs ∧ tt σ2 H2 fun b H3 => if b = true then te σ2 H3 R else N H3)
    (hd : ∀ H', Same H1 H' → H' D = some (.lst ((xs.filter p).map f)) → Qd H') :
    ∃ W : Nat → Nat → Hp → Prop, (∃ m, W 0 m (upd H1 D (.lst []))) ∧ ∀ i m H, W i m H →
      (J.stop i H ∧ Qd H) ∨ (J.go i H ∧ ∃ Nx : Hp → Prop, (∀ H', Nx H' → ∃ m', m' < m ∧ W (i + 1) m' H') ∧ ∀ x H', J.yld i H x H' → g x (wipe σ vs) H' fun σ2 H2 => wipe σ2 vs = wipe σ vs ∧ tt σ2 H2 fun b H3 =>
        if b = true then te σ2 H3 fun y H4 => ∃ acc, H4 D = some (.lst acc) ∧ acc.length < sizeLine ∧ Nx (upd H4 D (.lst (acc ++ [y]))) else Nx H3) := by
  refine lc_it w (fun i H' => Same H1 H' ∧ H' D = some (.lst (((xs.take i).filter p).map f))) ⟨Same.new hD, upd_same⟩ (fun i H _ h => hG H h.1) (fun i x H' H'' hi h y => ?_) (fun H h => ?_)
  · obtain ⟨a, ha⟩ : ∃ a, xs[i]? = some a := ⟨_, List.getElem?_eq_getElem hi⟩
    have tk : xs.take (i + 1) = xs.take i ++ [a] := by rw [List.take_add_one, ha]; rfl
    refine hs i a x H' H'' _ _ ha h.1 y (fun hp H4 s => ?_) (fun hp H4 s => ?_)
    · refine ⟨_, s _ _ h.2, ?_, (h.1.trans s).own hD, ?_⟩
      · have := List.length_filter_le p (xs.take i)
        rw [List.length_map, sizeLine_eq]
        rw [List.length_take] at this
        omega
      · rw [upd_same, tk, List.filter_append, List.map_append, List.filter_cons_of_pos hp]
        rfl
    · refine ⟨h.1.trans s, ?_⟩
      rw [tk, List.filter_append, List.filter_cons_of_neg (by rw [hp]; decide), List.filter_nil, List.append_nil]
      exact s _ _ h.2
  · rw [List.take_length] at h
    exact hd H h.1 h.2

/-! ### sorted letters -/
def abc (l : List Nat) : List Nat := capL.filter fun c => decide (c ∈ l)
theorem capL_lt : capL.Pairwise (· < ·) := by decide
theorem abc_lt (l : List Nat) : (abc l).Pairwise (· < ·) := capL_lt.filter _
theorem abc_nodup (l : List Nat) : (abc l).Nodup := (abc_lt l).imp fun h => Nat.ne_of_lt h
theorem mem_abc {l : List Nat} {c : Nat} (h : ∀ c ∈ l, c ∈ capL) : c ∈ abc l ↔ c ∈ l := by
  unfold abc
  rw [List.mem_filter, decide_eq_true_eq]
  exact ⟨fun z => z.2, fun z => ⟨h c z, z⟩⟩
theorem abc_cap {l : List Nat} {c : Nat} (h : c ∈ abc l) : c ∈ capL := (List.mem_filter.mp h).1
theorem abc_le (l : List Nat) : (abc l).length ≤ 26 := List.length_filter_le _ _
theorem lt_uniq : ∀ {l m : List Nat}, l.Pairwise (· < ·) → m.Pairwise (· < ·) → (∀ c, c ∈ l ↔ c ∈ m) → l = m
  | [], [], _, _, _ => rfl
  | [], y :: m, _, _, h => absurd ((h y).mpr List.mem_cons_self) List.not_mem_nil
  | x :: l, [], _, _, h => absurd ((h x).mp List.mem_cons_self) List.not_mem_nil
  | x :: l, y :: m, hl, hm, h => by
    obtain ⟨l1, l2⟩ := List.pairwise_cons.mp hl
    obtain ⟨m1, m2⟩ := List.pairwise_cons.mp hm
    have e : x = y := by
      rcases List.mem_cons.mp ((h x).mp List.mem_cons_self) with e | hx
      · exact e
      · rcases List.mem_cons.mp ((h y).mpr List.mem_cons_self) with e | hy
        · exact e.symm
        · have a := m1 x hx
          have b := l1 y hy
          omega
    subst e
    rw [lt_uniq l2 m2 fun c => ⟨fun z => ?_, fun z => ?_⟩]
    · rcases List.mem_cons.mp ((h c).mp (List.mem_cons_of_mem _ z)) with e | w
      · have := l1 c z; omega
      · exact w
    · rcases List.mem_cons.mp ((h c).mpr (List.mem_cons_of_mem _ z)) with e | w
      · have := m1 c z; omega
      · exact w
theorem rising_le : ∀ (l : List Nat) (c : Nat), risingS (S [c]) (l.map fun c => S [c]) = true → (c :: l).Pairwise (· ≤ ·)
  | [], c, _ => List.pairwise_cons.mpr ⟨fun _ h => (nomatch h), List.Pairwise.nil⟩
  | d :: l, c, h => by
    have h : (!ltCps [d] [c] && risingS (S [d]) (l.map fun c => S [c])) = true := h
    rw [Bool.and_eq_true] at h
    have ih := rising_le l d h.2
    obtain ⟨i1, i2⟩ := List.pairwise_cons.mp ih
    have hcd : c ≤ d := by
      rcases Nat.lt_or_ge d c with z | z
      · have e : ltCps [d] [c] = (decide (d < c) || (d == c && ltCps [] [])) := rfl
        have h1 := h.1
        rw [e, decide_eq_true z] at h1
        cases h1
      · exact z
    refine List.pairwise_cons.mpr ⟨fun x hx => ?_, ih⟩
    rcases List.mem_cons.mp hx with e | e
    · omega
    · have := i1 x e; omega
/-- a sorted row of single letters is that of the letters -/
theorem sorted_abc {l : List Nat} {ys : List Str} (hl : ∀ c ∈ l, c ∈ capL) (hs : sortedS ys = true) (nd : ys.Nodup) (hm : ∀ x, x ∈ ys ↔ x ∈ l.map fun c => S [c]) : ys = (abc l).map fun c => S [c] := by
  obtain ⟨ms, rfl⟩ : ∃ ms : List Nat, ys = ms.map fun c => S [c] := by
    have : ∀ ys : List Str, (∀ x ∈ ys, x ∈ l.map fun c => S [c]) → ∃ ms : List Nat, ys = ms.map fun c => S [c] := fun ys => by
      induction ys with
      | nil => exact fun _ => ⟨[], rfl⟩
      | cons x r ih =>
        intro h
        obtain ⟨c, _, rfl⟩ := List.mem_map.mp (h x List.mem_cons_self)
        obtain ⟨ms, rfl⟩ := ih fun y hy => h y (List.mem_cons_of_mem _ hy)
        exact ⟨c :: ms, rfl⟩
    exact this ys fun x hx => (hm x).mp hx
  have le : ms.Pairwise (· ≤ ·) := by
    cases ms with
    | nil => exact List.Pairwise.nil
    | cons c r => exact rising_le r c hs
  have inj : ∀ a b : Nat, S [a] = S [b] → a = b := fun a b e => by
    have := SX.S_inj e
    rw [List.cons.injEq] at this
    exact this.1
  have nd2 : ms.Nodup := (List.pairwise_map.mp nd).imp fun h e => h (by rw [e])
  have lt : ms.Pairwise (· < ·) := by
    have := le.and nd2
    exact this.imp fun h => Nat.lt_of_le_of_ne h.1 h.2
  rw [lt_uniq lt (abc_lt l) fun c => ?_]
  rw [mem_abc hl]
  have q := hm (S [c])
  rw [List.mem_map, List.mem_map] at q
  constructor
  · intro h
    obtain ⟨d, hd, e⟩ := q.mp ⟨c, h, rfl⟩
    exact inj d c e ▸ hd
  · intro h
    obtain ⟨d, hd, e⟩ := q.mpr ⟨c, h, rfl⟩
    exact inj d c e ▸ hd
/-! ### the numbers of the components -/
def mergeN (p : (Nat → Nat) × (Nat → Nat)) (lr : Nat × Nat) : (Nat → Nat) × (Nat → Nat) :=
  (fun c => if p.1 c = p.2 lr.2 then p.1 lr.1 else p.1 c, fun c => if p.2 c = p.2 lr.2 then p.1 lr.1 else p.2 c)
def numb0 (ls : List Nat) : (Nat → Nat) × (Nat → Nat) := (fun c => ls.idxOf c, fun c => ls.length + ls.idxOf c)
def pairsL (l : List Nat) : List (Nat × Nat) := l.zip l.tail
def numb (ls : List Nat) (J : List (Nat × Nat)) : (Nat → Nat) × (Nat → Nat) := J.foldl mergeN (numb0 ls)
theorem merge_same {p : (Nat → Nat) × (Nat → Nat)} {lr : Nat × Nat} (h : p.2 lr.2 = p.1 lr.1) : mergeN p lr = p := by
  unfold mergeN
  refine Prod.ext (funext fun c => ?_) (funext fun c => ?_) <;> dsimp only
  · by_cases e : p.1 c = p.2 lr.2
    · rw [if_pos e, ← h, e]
    · rw [if_neg e]
  · by_cases e : p.2 c = p.2 lr.2
    · rw [if_pos e, ← h, e]
    · rw [if_neg e]
/-- the number of a node: a side (false: the end) and a letter -/
def nod (p : (Nat → Nat) × (Nat → Nat)) (x : Bool × Nat) : Nat := if x.1 then p.2 x.2 else p.1 x.2
theorem nod_merge (p : (Nat → Nat) × (Nat → Nat)) (lr : Nat × Nat) (x : Bool × Nat) : nod (mergeN p lr) x = if nod p x = nod p (true, lr.2) then nod p (false, lr.1) else nod p x := by
  obtain ⟨b, c⟩ := x
  cases b <;> rfl
/-- a set of nodes that is closed under some joins -/
def Sat (J : List (Nat × Nat)) (X : Bool × Nat → Prop) : Prop := ∀ lr ∈ J, X (false, lr.1) ↔ X (true, lr.2)
theorem numb_min {ls : List Nat} : ∀ {J : List (Nat × Nat)}, (∀ lr ∈ J, lr.1 ∈ ls ∧ lr.2 ∈ ls) → ∀ {X : Bool × Nat → Prop}, Sat J X → ∀ {x y : Bool × Nat}, x.2 ∈ ls → y.2 ∈ ls → X x → nod (numb ls J) y = nod (numb ls J) x → X y := by
  intro J
  refine snocInd (P := fun J => (∀ lr ∈ J, lr.1 ∈ ls ∧ lr.2 ∈ ls) → ∀ {X : Bool × Nat → Prop}, Sat J X → ∀ {x y : Bool × Nat}, x.2 ∈ ls → y.2 ∈ ls → X x → nod (numb ls J) y = nod (numb ls J) x → X y) ?_ ?_ J
  · intro _ X _ x y hx hy h e
    have inj : ∀ a b : Nat, a ∈ ls → b ∈ ls → ls.idxOf a = ls.idxOf b → a = b := fun a b ha hb e => by
      have h1 := List.getElem_idxOf (List.idxOf_lt_length_iff.mpr ha)
      have h2 := List.getElem_idxOf (List.idxOf_lt_length_iff.mpr hb)
      rw [← h1, ← h2]
      simp only [e]
    obtain ⟨bx, cx⟩ := x
    obtain ⟨by_, cy⟩ := y
    have lx := List.idxOf_lt_length_iff.mpr hx
    have ly := List.idxOf_lt_length_iff.mpr hy
    have e : nod (numb0 ls) (by_, cy) = nod (numb0 ls) (bx, cx) := e
    unfold nod numb0 at e
    cases bx <;> cases by_ <;> simp only [Bool.false_eq_true, if_true, if_false] at e
    · obtain rfl : cy = cx := inj cy cx hy hx e
      exact h
    · exact absurd e (by dsimp only at lx ly; omega)
    · exact absurd e (by dsimp only at lx ly; omega)
    · obtain rfl : cy = cx := inj cy cx hy hx (by omega)
      exact h
  · intro J lr ih hin X hX x y hx hy h e
    have hin1 := fun q hq => hin q (List.mem_append_left _ hq)
    have hlr := hin lr (List.mem_append_right _ (List.mem_singleton.mpr rfl))
    have sat1 : Sat J X := fun q hq => hX q (List.mem_append_left _ hq)
    have j := hX lr (List.mem_append_right _ (List.mem_singleton.mpr rfl))
    have eN : numb ls (J ++ [lr]) = mergeN (numb ls J) lr := by unfold numb; rw [List.foldl_append]; rfl
    rw [eN, nod_merge, nod_merge] at e
    have ihc := @ih hin1 X sat1
    by_cases h1 : nod (numb ls J) y = nod (numb ls J) (true, lr.2)
    · by_cases h2 : nod (numb ls J) x = nod (numb ls J) (true, lr.2)
      · exact ihc hx hy h (h1.trans h2.symm)
      · rw [if_pos h1, if_neg h2] at e
        have a : X (false, lr.1) := ihc (x := x) (y := (false, lr.1)) hx hlr.1 h e
        exact ihc (x := (true, lr.2)) (y := y) hlr.2 hy (j.mp a) h1
    · by_cases h2 : nod (numb ls J) x = nod (numb ls J) (true, lr.2)
      · rw [if_neg h1, if_pos h2] at e
        have a : X (true, lr.2) := ihc (x := x) (y := (true, lr.2)) hx hlr.2 h h2.symm
        exact ihc (x := (false, lr.1)) (y := y) hlr.1 hy (j.mpr a) e
      · rw [if_neg h1, if_neg h2] at e
        exact ihc hx hy h e
theorem numb_join {ls : List Nat} {J : List (Nat × Nat)} : ∀ lr ∈ J, nod (numb ls J) (false, lr.1) = nod (numb ls J) (true, lr.2) := by
  refine snocInd (P := fun J => ∀ lr ∈ J, nod (numb ls J) (false, lr.1) = nod (numb ls J) (true, lr.2)) (fun _ h => (nomatch h)) (fun J q ih lr h => ?_) J
  have eN : numb ls (J ++ [q]) = mergeN (numb ls J) q := by unfold numb; rw [List.foldl_append]; rfl
  rw [eN, nod_merge, nod_merge]
  rcases List.mem_append.mp h with h | h
  · rw [ih lr h]
  · rw [List.mem_singleton] at h
    subst h
    rw [if_pos rfl]
    by_cases e : nod (numb ls J) (false, lr.1) = nod (numb ls J) (true, lr.2)
    · rw [if_pos e]
    · rw [if_neg e]

/-! ### single letters as data -/
/-- single letters as data -/
def sgD (ls : List Nat) : List PyData := ls.map fun c => .str (S [c])
theorem sgD_lay : ∀ ls : List Nat, (∀ c ∈ ls, c < 0x110000) → PyData.canLayAll0 (sgD ls) = true
  | [], _ => by simp [sgD, PyData.canLayAll0]
  | c :: r, h => by
    have ih := sgD_lay r fun x hx => h x (List.mem_cons_of_mem _ hx)
    have h1 := (lite_str (D := 1) (k := 1) (l := [c]) (Nat.le_refl 1) fun x hx => by rw [List.mem_singleton.mp hx]; exact h c List.mem_cons_self).c
    show PyData.canLayAll0 (.str (S [c]) :: sgD r) = true
    simp only [PyData.canLayAll0, h1, ih, Bool.and_self]
theorem sgD_depth : ∀ ls : List Nat, PyData.depthAll (sgD ls) ≤ 1
  | [] => by simp [sgD, PyData.depthAll]
  | c :: r => by
    have := sgD_depth r
    show PyData.depthAll (.str (S [c]) :: sgD r) ≤ 1
    simp only [PyData.depthAll, PyData.depth]
    omega
theorem sgD_shaped (ls : List Nat) (h : ∀ c ∈ ls, c < 0x110000) : SeqAt.shaped (.list (sgD ls)) = true := by
  have h1 := sgD_depth ls
  show (PyData.canLay0 (.list (sgD ls)) && decide (PyData.depth (.list (sgD ls)) ≤ 64)) = true
  rw [Bool.and_eq_true]
  exact ⟨by simp only [PyData.canLay0]; exact sgD_lay ls h, decide_eq_true (by simp only [PyData.depth]; omega)⟩
theorem sgD_eqvA : ∀ a b : List Nat, PyData.eqvAll (sgD a) (sgD b) = decide (a = b)
  | [], [] => by simp [sgD, PyData.eqvAll]
  | [], _ :: _ => by simp [sgD, PyData.eqvAll]
  | _ :: _, [] => by simp [sgD, PyData.eqvAll]
  | c :: r, d :: t => by
    have ih := sgD_eqvA r t
    show PyData.eqvAll (.str (S [c]) :: sgD r) (.str (S [d]) :: sgD t) = _
    simp only [PyData.eqvAll, PyData.eqv, ih]
    by_cases h : c = d
    · subst h
      simp
    · have hn : ¬ S [c] = S [d] := fun e => h (by have := SX.S_inj e; rw [List.cons.injEq] at this; exact this.1)
      rw [show (S [c] == S [d]) = false from beq_eq_false_iff_ne.mpr hn, Bool.false_and]
      exact (decide_eq_false fun e => h (by rw [List.cons.injEq] at e; exact e.1)).symm
theorem sgD_eqv (a b : List Nat) : PyData.eqv (.list (sgD a)) (.list (sgD b)) = decide (a = b) := by
  show PyData.eqvAll (sgD a) (sgD b) = _
  exact sgD_eqvA a b
theorem sg_all {K : PySem.W.Frag} (Hx : Hp) (ls : List Nat) : DpAll K Hx (ls.map fun c => V.str (S [c])) (sgD ls) := by
  induction ls with
  | nil => exact .nil
  | cons c r ih => exact .cons (.str _) ih

/-! ### nodes: a side and a letter, as data -/
abbrev Nd := Bool × Nat
def sdI (b : Bool) : Int := if b then 1 else 0
def nodV (x : Nd) : List V := [.int (sdI x.1), .str (S [x.2])]
def nodD (x : Nd) : PyData := .tuple [.int (sdI x.1), .str (S [x.2])]
theorem nodD_mk {K : PySem.W.Frag} {H : Hp} {t : Addr} {x : Nd} (h : SqT K H t (nodV x)) : Dp K H (.ref t) (nodD x) := .tup h (.cons (.int _) (.cons (.str _) .nil))
theorem nodD_at {K : PySem.W.Frag} {H : Hp} {v : V} {x : Nd} (h : Dp K H v (nodD x)) : ∃ t, v = .ref t ∧ SqT K H t (nodV x) := by
  unfold nodD at h
  cases h with
  | tup h1 h2 =>
    cases h2 with
    | cons a r =>
      cases r with
      | cons b r2 =>
        cases r2
        cases a
        cases b
        exact ⟨_, rfl, h1⟩
theorem nodD_eqv (x y : Nd) : PyData.eqv (nodD x) (nodD y) = decide (x = y) := by
  obtain ⟨b, c⟩ := x
  obtain ⟨b2, c2⟩ := y
  have h1 : (sdI b == sdI b2) = decide (b = b2) := by cases b <;> cases b2 <;> decide
  have h2 : (S [c] == S [c2]) = decide (c = c2) := by
    by_cases e : c = c2
    · subst e; simp
    · rw [decide_eq_false e]
      exact beq_eq_false_iff_ne.mpr fun z => e (by have := SX.S_inj z; rw [List.cons.injEq] at this; exact this.1)
  show (PyData.eqv (.int (sdI b)) (.int (sdI b2)) && (PyData.eqv (.str (S [c])) (.str (S [c2])) && true)) = _
  rw [Bool.and_true]
  show ((sdI b == sdI b2) && (S [c] == S [c2])) = _
  rw [h1, h2, ← Bool.decide_and]
  exact decide_eq_decide.mpr ⟨fun z => by rw [z.1, z.2], fun z => by rw [Prod.mk.injEq] at z; exact z⟩
theorem nod_lay (x : Nd) (h : x.2 < 0x110000) : PyData.canLay0 (nodD x) = true := by
  have h1 := (lite_str (D := 1) (k := 1) (l := [x.2]) (Nat.le_refl 1) fun c hc => by rw [List.mem_singleton.mp hc]; exact h).c
  show PyData.canLayAll0 [.int (sdI x.1), .str (S [x.2])] = true
  simp only [PyData.canLayAll0, h1, Bool.and_true]
  rfl
theorem nod_depth (x : Nd) : PyData.depth (nodD x) = 1 := rfl
theorem nod_shaped (x : Nd) (h : x.2 < 0x110000) : SeqAt.shaped (nodD x) = true := by
  unfold SeqAt.shaped
  rw [Bool.and_eq_true]
  exact ⟨nod_lay x h, by rw [nod_depth]; decide⟩
theorem nods_lay : ∀ ns : List Nd, (∀ x ∈ ns, x.2 < 0x110000) → PyData.canLayAll0 (ns.map nodD) = true ∧ PyData.depthAll (ns.map nodD) ≤ 1
  | [], _ => ⟨rfl, Nat.zero_le _⟩
  | x :: r, h => by
    obtain ⟨a, b⟩ := nods_lay r fun y hy => h y (List.mem_cons_of_mem _ hy)
    rw [List.map_cons]
    refine ⟨by simp only [PyData.canLayAll0, nod_lay x (h x List.mem_cons_self), a, Bool.and_self], ?_⟩
    simp only [PyData.depthAll, nod_depth]
    omega
theorem nods_shaped (ns : List Nd) (h : ∀ x ∈ ns, x.2 < 0x110000) : SeqAt.shaped (.list (ns.map nodD)) = true := by
  obtain ⟨a, b⟩ := nods_lay ns h
  unfold SeqAt.shaped
  rw [Bool.and_eq_true]
  exact ⟨by simp only [PyData.canLay0]; exact a, decide_eq_true (by simp only [PyData.depth]; omega)⟩
theorem nods_any (ns : List Nd) (x : Nd) : ((ns.map nodD).any fun z => PyData.eqv z (nodD x)) = decide (x ∈ ns) := by
  induction ns with
  | nil => rfl
  | cons y r ih =>
    rw [List.map_cons, List.any_cons, ih, nodD_eqv, ← Bool.decide_or]
    exact decide_eq_decide.mpr ⟨fun z => z.elim (fun e => e ▸ List.mem_cons_self) (List.mem_cons_of_mem _), fun z => (List.mem_cons.mp z).imp Eq.symm id⟩
/-! ### neighbours, classes -/
def nbr (J : List (Nat × Nat)) (x : Nd) : List Nd := (J.filter fun p => decide ((if x.1 then p.2 else p.1) = x.2)).map fun p => (!x.1, if x.1 then p.1 else p.2)
theorem nbr_iff {J : List (Nat × Nat)} {x y : Nd} : y ∈ nbr J x ↔ ∃ p ∈ J, (x = (false, p.1) ∧ y = (true, p.2)) ∨ (x = (true, p.2) ∧ y = (false, p.1)) := by
  obtain ⟨b, c⟩ := x
  unfold nbr
  rw [List.mem_map]
  constructor
  · rintro ⟨p, hp, rfl⟩
    rw [List.mem_filter, decide_eq_true_eq] at hp
    refine ⟨p, hp.1, ?_⟩
    cases b with
    | false => exact .inl ⟨Prod.ext rfl hp.2.symm, rfl⟩
    | true => exact .inr ⟨Prod.ext rfl hp.2.symm, rfl⟩
  · rintro ⟨p, hp, h⟩
    refine ⟨p, List.mem_filter.mpr ⟨hp, ?_⟩, ?_⟩
    · rw [decide_eq_true_eq]
      rcases h with ⟨h, _⟩ | ⟨h, _⟩ <;> (rw [Prod.mk.injEq] at h; obtain ⟨rfl, rfl⟩ := h; rfl)
    · rcases h with ⟨h, h2⟩ | ⟨h, h2⟩ <;> (rw [Prod.mk.injEq] at h; obtain ⟨rfl, rfl⟩ := h; rw [h2]; rfl)
theorem nbr_nod {ls : List Nat} {J : List (Nat × Nat)} {x y : Nd} (h : y ∈ nbr J x) : nod (numb ls J) y = nod (numb ls J) x := by
  obtain ⟨p, hp, h⟩ := nbr_iff.mp h
  have j := numb_join (ls := ls) p hp
  rcases h with ⟨rfl, rfl⟩ | ⟨rfl, rfl⟩
  · exact j.symm
  · exact j
theorem cls_full {ls : List Nat} {J : List (Nat × Nat)} (hin : ∀ lr ∈ J, lr.1 ∈ ls ∧ lr.2 ∈ ls) {ns : List Nd} {x0 : Nd} (h0 : x0 ∈ ns) (hx0 : x0.2 ∈ ls) (cl : ∀ x ∈ ns, ∀ y ∈ nbr J x, y ∈ ns) {y : Nd} (hy : y.2 ∈ ls)
    (e : nod (numb ls J) y = nod (numb ls J) x0) : y ∈ ns :=
  numb_min hin (X := fun z => z ∈ ns) (fun p hp => ⟨fun z => cl _ z _ (nbr_iff.mpr ⟨p, hp, .inl ⟨rfl, rfl⟩⟩), fun z => cl _ z _ (nbr_iff.mpr ⟨p, hp, .inr ⟨rfl, rfl⟩⟩)⟩) hx0 hy h0 e
/-- the letters whose ends, and those whose beginnings, have a number -/
def partN (N : (Nat → Nat) × (Nat → Nat)) (ls : List Nat) (v : Nat) : List Nat × List Nat := (ls.filter fun c => decide (N.1 c = v), ls.filter fun c => decide (N.2 c = v))
theorem partN_inj {N : (Nat → Nat) × (Nat → Nat)} {ls : List Nat} {x : Nd} {v : Nat} (hx : x.2 ∈ ls) (e : partN N ls (nod N x) = partN N ls v) : nod N x = v := by
  obtain ⟨b, c⟩ := x
  unfold partN at e
  rw [Prod.mk.injEq] at e
  cases b with
  | false =>
    have h : c ∈ ls.filter fun d => decide (N.1 d = nod N (false, c)) := List.mem_filter.mpr ⟨hx, decide_eq_true rfl⟩
    rw [e.1, List.mem_filter, decide_eq_true_eq] at h
    exact h.2
  | true =>
    have h : c ∈ ls.filter fun d => decide (N.2 d = nod N (true, c)) := List.mem_filter.mpr ⟨hx, decide_eq_true rfl⟩
    rw [e.2, List.mem_filter, decide_eq_true_eq] at h
    exact h.2
/-- the components of a text, sorted -/
structure PartsOf (l : List Nat) (ps : List (List Nat × List Nat)) : Prop where
  srt : SrtT ps
  nd : ps.Nodup
  mem : ∀ q, q ∈ ps ↔ ∃ x : Nd, x.2 ∈ l ∧ q = partN (numb (abc l) (pairsL l)) (abc l) (nod (numb (abc l) (pairsL l)) x)
theorem parts_uniq {l : List Nat} {ps qs : List (List Nat × List Nat)} (h : PartsOf l ps) (k : PartsOf l qs) : ps = qs :=
  srtT_uniq ((List.perm_ext_iff_of_nodup h.nd k.nd).mpr fun q => (h.mem q).trans (k.mem q).symm) h.srt k.srt
theorem pairs_in {l : List Nat} : ∀ lr ∈ pairsL l, lr.1 ∈ l ∧ lr.2 ∈ l := fun lr h => by
  unfold pairsL at h
  obtain ⟨a, b⟩ := List.of_mem_zip h
  exact ⟨a, List.mem_of_mem_tail b⟩
theorem part_set {N : (Nat → Nat) × (Nat → Nat)} {l : List Nat} {ns : List Nd} {v : Nat} (hcap : ∀ c ∈ l, c ∈ capL) (hns : ∀ y : Nd, y ∈ ns ↔ y.2 ∈ l ∧ nod N y = v) (b : Bool) :
    abc ((ns.filter fun x => decide (x.1 = b)).map (·.2)) = (abc l).filter fun c => decide (nod N (b, c) = v) := by
  refine lt_uniq (abc_lt _) ((abc_lt l).filter _) fun c => ?_
  have hm : ∀ c, c ∈ (ns.filter fun x => decide (x.1 = b)).map (·.2) ↔ (b, c) ∈ ns := fun c => by
    rw [List.mem_map]
    constructor
    · rintro ⟨x, hx, rfl⟩
      rw [List.mem_filter, decide_eq_true_eq] at hx
      obtain ⟨h, rfl⟩ := hx
      exact h
    · exact fun h => ⟨_, List.mem_filter.mpr ⟨h, decide_eq_true rfl⟩, rfl⟩
  rw [mem_abc fun c hc => hcap c ((hns _).mp ((hm c).mp hc)).1, hm, hns, List.mem_filter, mem_abc hcap, decide_eq_true_eq]
theorem snd_few {l : List Nat} {ns : List Nd} (nd : ns.Nodup) (h : ∀ x ∈ ns, x.2 ∈ l) : ns.length ≤ 2 * (dist l).length := by
  have q := nodup_len (m := (dist l).map (fun c => ((false, c) : Nd)) ++ (dist l).map fun c => (true, c)) nd fun x hx => by
    obtain ⟨b, c⟩ := x
    have hc : c ∈ dist l := mem_dist.mpr (h _ hx)
    cases b with
    | false => exact List.mem_append_left _ (List.mem_map.mpr ⟨c, hc, rfl⟩)
    | true => exact List.mem_append_right _ (List.mem_map.mpr ⟨c, hc, rfl⟩)
  rw [List.length_append, List.length_map, List.length_map] at q
  omega
/-- the nodes of a text in the order of the law -/
def allN (l : List Nat) : List Nd := (dist l).map (fun c => ((false, c) : Nd)) ++ (dist l).map fun c => (true, c)
theorem mem_allN {l : List Nat} {x : Nd} : x ∈ allN l ↔ x.2 ∈ l := by
  obtain ⟨b, c⟩ := x
  unfold allN
  rw [List.mem_append, List.mem_map, List.mem_map]
  constructor
  · rintro (⟨d, hd, e⟩ | ⟨d, hd, e⟩) <;> (rw [Prod.mk.injEq] at e; obtain ⟨_, rfl⟩ := e; exact mem_dist.mp hd)
  · intro h
    have hc := mem_dist.mpr h
    cases b with
    | false => exact .inl ⟨c, hc, rfl⟩
    | true => exact .inr ⟨c, hc, rfl⟩
/-! ### lists of tuples -/
def TupsAt (H : Hp) : List V → List (List V) → Prop
  | [], [] => True
  | v :: ys, o :: os => (∃ t, v = .ref t ∧ H t = some (.tup o)) ∧ TupsAt H ys os
  | _, _ => False
theorem TupsAt.len {H : Hp} : ∀ {ys : List V} {os : List (List V)}, TupsAt H ys os → ys.length = os.length
  | [], [], _ => rfl
  | [], _ :: _, h => h.elim
  | _ :: _, [], h => h.elim
  | _ :: ys, _ :: os, h => by rw [List.length_cons, List.length_cons, TupsAt.len h.2]
theorem TupsAt.mono {H H' : Hp} : ∀ {ys : List V} {os : List (List V)}, TupsAt H ys os → (∀ t o, o ∈ os → H t = some (.tup o) → H' t = some (.tup o)) → TupsAt H' ys os
  | [], [], _, _ => trivial
  | [], _ :: _, h, _ => h.elim
  | _ :: _, [], h, _ => h.elim
  | _ :: ys, o :: os, h, k => by
    obtain ⟨⟨t, e, ht⟩, r⟩ := h
    exact ⟨⟨t, e, k t o List.mem_cons_self ht⟩, TupsAt.mono r fun t o ho => k t o (List.mem_cons_of_mem _ ho)⟩
theorem TupsAt.same {H H' : Hp} {ys : List V} {os : List (List V)} (h : TupsAt H ys os) (s : Same H H') : TupsAt H' ys os := h.mono fun t o _ e => s _ _ e
theorem TupsAt.but {H H' : Hp} {ys : List V} {os : List (List V)} {p : Addr} {xs : List V} (h : TupsAt H ys os) (s : But p H H') (hp : H p = some (.lst xs)) : TupsAt H' ys os := h.mono fun t o _ e => s _ _ (ne_of e hp fun z => by cases z) e
theorem TupsAt.app {H : Hp} : ∀ {ys zs : List V} {os ps : List (List V)}, TupsAt H ys os → TupsAt H zs ps → TupsAt H (ys ++ zs) (os ++ ps)
  | [], _, [], _, _, h => h
  | [], _, _ :: _, _, h, _ => h.elim
  | _ :: _, _, [], _, h, _ => h.elim
  | _ :: _, _, _ :: _, _, h, k => ⟨h.1, TupsAt.app h.2 k⟩
theorem TupsAt.at {H : Hp} : ∀ {ys : List V} {os : List (List V)} {i : Nat} {v : V}, TupsAt H ys os → ys[i]? = some v → ∃ o t, os[i]? = some o ∧ v = .ref t ∧ H t = some (.tup o)
  | [], [], _, _, _, h => by simp at h
  | [], _ :: _, _, _, h, _ => h.elim
  | _ :: _, [], _, _, h, _ => h.elim
  | v :: ys, o :: os, 0, x, h, e => by
    obtain ⟨⟨t, e1, ht⟩, _⟩ := h
    rw [List.getElem?_cons_zero] at e
    cases e
    exact ⟨o, t, rfl, e1, ht⟩
  | v :: ys, o :: os, i + 1, x, h, e => by
    rw [List.getElem?_cons_succ] at e
    obtain ⟨o2, t, a, b⟩ := TupsAt.at h.2 e
    exact ⟨o2, t, by rw [List.getElem?_cons_succ]; exact a, b⟩
theorem tups_nods {K : PySem.W.Frag} {H : Hp} : ∀ {ys : List V} {ns : List Nd}, TupsAt H ys (ns.map nodV) → DpAll K H ys (ns.map nodD)
  | [], [], _ => .nil
  | [], _ :: _, h => h.elim
  | _ :: _, [], h => h.elim
  | v :: ys, x :: ns, h => by
    obtain ⟨⟨t, e, ht⟩, r⟩ := h
    subst e
    exact .cons (nodD_mk (SqT.of ht)) (tups_nods r)
/-- a comprehension whose items are new tuples -/
theorem lc_tup {J : It} {G : Hp → Prop} {Y : Nat → Hp → V → Hp → Prop} {α : Type} (xs : List α) (p : α → Bool) (f : α → List V) (w : Walk J xs.length G Y) {g : TG} {tt : TT} {te : TE} {vs : List Nat} {σ : L2.St} {H1 : Hp} {D : Addr} {Qd : Hp → Prop}
    (hD : H1 D = none) (hn : xs.length ≤ 100000) (hG : ∀ H', Same H1 H' → G H')
    (hs : ∀ i a x H' H'' (Rk : VK) (N : Hp → Prop), xs[i]? = some a → Same H1 H' → Y i H' x H'' → (p a = true → ∀ t H4, Same H' H4 → H4 t = some (.tup (f a)) → Rk (.ref t) H4) → (p a = false → ∀ H4, Same H' H4 → N H4) →
      g x (wipe σ vs) H'' fun σ2 H2 => wipe σ2 vs = wipe σ vs ∧ tt σ2 H2 fun b H3 => if b = true then te σ2 H3 Rk else N H3)
    (hd : ∀ H' ys, Same H1 H' → H' D = some (.lst ys) → TupsAt H' ys ((xs.filter p).map f) → Qd H') :
    ∃ W : Nat → Nat → Hp → Prop, (∃ m, W 0 m (upd H1 D (.lst []))) ∧ ∀ i m H, W i m H →
      (J.stop i H ∧ Qd H) ∨ (J.go i H ∧ ∃ Nx : Hp → Prop, (∀ H', Nx H' → ∃ m', m' < m ∧ W (i + 1) m' H') ∧ ∀ x H', J.yld i H x H' → g x (wipe σ vs) H' fun σ2 H2 => wipe σ2 vs = wipe σ vs ∧ tt σ2 H2 fun b H3 =>
        if b = true then te σ2 H3 fun y H4 => ∃ acc, H4 D = some (.lst acc) ∧ acc.length < sizeLine ∧ Nx (upd H4 D (.lst (acc ++ [y]))) else Nx H3) := by
  refine lc_it w (fun i H' => Same H1 H' ∧ ∃ ys, H' D = some (.lst ys) ∧ TupsAt H' ys (((xs.take i).filter p).map f)) ⟨Same.new hD, [], upd_same, trivial⟩ (fun i H _ h => hG H h.1) (fun i x H' H'' hi h y => ?_) (fun H h => ?_)
  · obtain ⟨a, ha⟩ : ∃ a, xs[i]? = some a := ⟨_, List.getElem?_eq_getElem hi⟩
    have tk : xs.take (i + 1) = xs.take i ++ [a] := by rw [List.take_add_one, ha]; rfl
    obtain ⟨s, ys, e, hT⟩ := h
    refine hs i a x H' H'' _ _ ha s y (fun hp t H4 s4 ht => ?_) (fun hp H4 s4 => ?_)
    · refine ⟨ys, s4 _ _ e, ?_, (s.trans s4).own hD, ys ++ [.ref t], upd_same, ?_⟩
      · have h1 := hT.len
        have h2 := List.length_filter_le p (xs.take i)
        rw [List.length_map] at h1
        rw [List.length_take] at h2
        rw [sizeLine_eq]
        omega
      · rw [tk, List.filter_append, List.map_append, List.filter_cons_of_pos hp]
        have e4 := s4 _ _ e
        exact ((hT.same s4).but (But.refl D H4).upd_at e4).app ⟨⟨t, rfl, by rw [upd_ne (ne_of ht e4 fun z => by cases z)]; exact ht⟩, trivial⟩
    · refine ⟨s.trans s4, ys, s4 _ _ e, ?_⟩
      rw [tk, List.filter_append, List.filter_cons_of_neg (by rw [hp]; decide), List.filter_nil, List.append_nil]
      exact hT.same s4
  · rw [List.take_length] at h
    obtain ⟨s, ys, e, hT⟩ := h
    exact hd H ys s e hT
theorem filter_tt {α : Type} (xs : List α) : xs.filter (fun _ => true) = xs := List.filter_eq_self.mpr fun _ _ => rfl
/-- while, by a word and a measure; the test's own way on is handed in -/
theorem while_own {c : TT} {tb : TS} {D : Ends} {σ : L2.St} {H : Hp} (Pv : L2.St → Hp → Prop) (μ : L2.St → Hp → Nat) (h0 : Pv σ H)
    (hs : ∀ σ H, Pv σ H → ∀ R : Bool → Hp → Prop, (∀ b H1, (if b = true then tb { D with nx := fun σ' H' => Pv σ' H' ∧ μ σ' H' < μ σ H, ct := fun σ' H' => Pv σ' H' ∧ μ σ' H' < μ σ H, bk := D.nx } σ H1 else D.nx σ H1) → R b H1) → c σ H R) : tWhile c tb D σ H := by
  refine ⟨fun m σ H => m = μ σ H ∧ Pv σ H, ⟨_, rfl, h0⟩, ?_⟩
  rintro m σ H ⟨rfl, p⟩
  refine hs σ H p _ fun b H1 q => ?_
  cases b with
  | true => exact ⟨_, fun σ' H' ⟨p', l⟩ => ⟨_, l, rfl, p'⟩, q⟩
  | false => exact q
/-! ### pairs of texts -/
theorem pair_cut {l : List Nat} {i : Nat} {q : Nat × Nat} (h : (pairsL l)[i]? = some q) : (l.take (i + 2)).drop i = [q.1, q.2] := by
  obtain ⟨a, b⟩ := q
  unfold pairsL at h
  rw [List.getElem?_zip_eq_some, ← List.drop_one, List.getElem?_drop, Nat.add_comm 1 i] at h
  obtain ⟨h1, h2⟩ := h
  have l1 : i < l.length := (List.getElem?_eq_some_iff.mp h1).1
  rw [List.take_add_one, h2, List.take_add_one, h1, Option.toList_some, Option.toList_some, List.append_assoc, List.drop_left' (by rw [List.length_take]; omega)]
  rfl
theorem pairs_len (l : List Nat) : (pairsL l).length = l.length - 1 := by
  unfold pairsL
  rw [List.length_zip, List.length_tail]
  omega
def pairV (q : List Nat × List Nat) : List V := [.str (S q.1), .str (S q.2)]
def keyH (H : Hp) (v : V) : List Nat × List Nat := match v with
  | .ref t => match H t with
    | some (.tup [.str a, .str b]) => (a.cps.toList, b.cps.toList)
    | _ => ([], [])
  | _ => ([], [])
theorem keyH_at {H : Hp} {t : Addr} {q : List Nat × List Nat} (h : H t = some (.tup (pairV q))) : keyH H (.ref t) = q := by
  unfold keyH
  dsimp only
  rw [h]
  rfl
theorem pairs_key {H : Hp} : ∀ {ys : List V} {ps : List (List Nat × List Nat)}, TupsAt H ys (ps.map pairV) → ys.map (keyH H) = ps ∧ ∀ x ∈ ys, ∃ t, x = V.ref t ∧ H t = some (.tup [.str (S (keyH H x).1), .str (S (keyH H x).2)])
  | [], [], _ => ⟨rfl, fun _ h => nomatch h⟩
  | [], _ :: _, h => h.elim
  | _ :: _, [], h => h.elim
  | v :: ys, q :: ps, h => by
    obtain ⟨⟨t, rfl, ht⟩, r⟩ := h
    obtain ⟨a, b⟩ := pairs_key r
    refine ⟨by rw [List.map_cons, keyH_at ht, a], fun x hx => ?_⟩
    rcases List.mem_cons.mp hx with rfl | hx
    · exact ⟨t, rfl, by rw [keyH_at ht]; exact ht⟩
    · exact b x hx

/-! ### sets of letters as rising lists: by size, then by the alphabet -/
theorem lt_asymm : ∀ a b : List Nat, ltCps a b = true → ltCps b a = false
  | [], [], h => by cases h
  | [], _ :: _, _ => rfl
  | _ :: _, [], h => by cases h
  | a :: r, b :: t, h => by
    simp only [ltCps, Bool.or_eq_true, decide_eq_true_eq, Bool.and_eq_true, beq_iff_eq] at h
    simp only [ltCps, Bool.or_eq_false_iff, decide_eq_false_iff_not, Bool.and_eq_false_iff, beq_eq_false_iff_ne]
    rcases h with h | ⟨rfl, h⟩
    · exact ⟨by omega, .inl (by omega)⟩
    · exact ⟨by omega, .inr (lt_asymm r t h)⟩
theorem lt_total : ∀ a b : List Nat, ltCps a b = false → ltCps b a = false → a = b
  | [], [], _, _ => rfl
  | [], _ :: _, h, _ => by cases h
  | _ :: _, [], _, h => by cases h
  | a :: r, b :: t, h, k => by
    simp only [ltCps, Bool.or_eq_false_iff, decide_eq_false_iff_not, Bool.and_eq_false_iff, beq_eq_false_iff_ne] at h k
    obtain rfl : a = b := by omega
    rw [lt_total r t (h.2.resolve_left fun z => z rfl) (k.2.resolve_left fun z => z rfl)]
/-- a step over a least one -/
theorem lt_cross : ∀ a b c : List Nat, ltCps c a = true → ltCps b a = true ∨ ltCps c b = true
  | [], _, [], h => by cases h
  | [], _, _ :: _, h => by cases h
  | _ :: _, [], _, _ => .inl rfl
  | _ :: _, _ :: _, [], _ => .inr rfl
  | a :: r, b :: t, c :: u, h => by
    simp only [ltCps, Bool.or_eq_true, decide_eq_true_eq, Bool.and_eq_true, beq_iff_eq] at h ⊢
    rcases h with h | ⟨rfl, h⟩
    · by_cases e : b < a
      · exact .inl (.inl e)
      · exact .inr (.inl (by omega))
    · rcases Nat.lt_trichotomy b c with e | e | e
      · exact .inl (.inl e)
      · subst e
        rcases lt_cross r t u h with k | k
        · exact .inl (.inr ⟨rfl, k⟩)
        · exact .inr (.inr ⟨rfl, k⟩)
      · exact .inr (.inl e)
def sle (a b : List Nat) : Prop := a.length < b.length ∨ (a.length = b.length ∧ ltCps b a = false)
theorem sle_anti {a b : List Nat} (h : sle a b) (k : sle b a) : a = b := by
  rcases h with h | ⟨h1, h2⟩ <;> rcases k with k | ⟨k1, k2⟩
  · omega
  · omega
  · omega
  · exact lt_total a b k2 h2
theorem sort_uniq {α : Type} {r : α → α → Prop} (anti : ∀ a b, r a b → r b a → a = b) : ∀ {l m : List α}, l.Perm m → l.Pairwise r → m.Pairwise r → l = m
  | [], m, p, _, _ => (List.Perm.eq_nil p.symm).symm
  | x :: l, [], p, _, _ => absurd p.length_eq (by simp)
  | x :: l, y :: m, p, hl, hm => by
    obtain ⟨l1, l2⟩ := List.pairwise_cons.mp hl
    obtain ⟨m1, m2⟩ := List.pairwise_cons.mp hm
    have e : x = y := by
      rcases List.mem_cons.mp (p.mem_iff.mp (List.mem_cons_self (a := x) (l := l))) with e | h
      · exact e
      · rcases List.mem_cons.mp (p.mem_iff.mpr (List.mem_cons_self (a := y) (l := m))) with e | k
        · exact e.symm
        · exact anti x y (l1 y k) (m1 x h)
    subst e
    rw [sort_uniq anti p.cons_inv l2 m2]
abbrev Inc (m : List Nat) : Prop := m.Pairwise (· < ·)
/-- the sets of letters of ls with P, each once, in their order -/
structure SetsOf (P : List Nat → Prop) (ls : List Nat) (o : List (List Nat)) : Prop where
  srt : o.Pairwise sle
  nd : o.Nodup
  mem : ∀ m, m ∈ o ↔ m ≠ [] ∧ Inc m ∧ (∀ c ∈ m, c ∈ ls) ∧ P m
theorem sets_uniq {P P' : List Nat → Prop} {ls o o' : List _} (h : SetsOf P ls o) (k : SetsOf P' ls o') (e : ∀ m, m ≠ [] → Inc m → (∀ c ∈ m, c ∈ ls) → (P m ↔ P' m)) : o = o' :=
  sort_uniq (fun _ _ => sle_anti) ((List.perm_ext_iff_of_nodup h.nd k.nd).mpr fun m => by
    rw [h.mem, k.mem]
    exact ⟨fun ⟨a, b, c, d⟩ => ⟨a, b, c, (e m a b c).mp d⟩, fun ⟨a, b, c, d⟩ => ⟨a, b, c, (e m a b c).mpr d⟩⟩) h.srt k.srt
theorem SetsOf.filter {P : List Nat → Prop} {ls o : List _} (h : SetsOf P ls o) (p : List Nat → Bool) : SetsOf (fun m => P m ∧ p m = true) ls (o.filter p) :=
  ⟨h.srt.filter _, h.nd.filter _, fun m => by rw [List.mem_filter, h.mem]; exact ⟨fun ⟨⟨a, b, c, d⟩, e⟩ => ⟨a, b, c, d, e⟩, fun ⟨a, b, c, d, e⟩ => ⟨⟨a, b, c, d⟩, e⟩⟩⟩
/-! all sets, as the law makes them -/
def subsF (ls : List Nat) : List (List Nat) := ls.foldl (fun acc c => acc ++ acc.map fun m => m ++ [c]) [[]]
theorem subsF_snoc (ls : List Nat) (c : Nat) : subsF (ls ++ [c]) = subsF ls ++ (subsF ls).map fun m => m ++ [c] := by
  unfold subsF
  rw [List.foldl_append]
  rfl
theorem subsF_len (ls : List Nat) : (subsF ls).length = 2 ^ ls.length := by
  refine snocInd (P := fun ls => (subsF ls).length = 2 ^ ls.length) rfl (fun l c ih => ?_) ls
  rw [subsF_snoc, List.length_append, List.length_map, ih, List.length_append, List.length_singleton, Nat.pow_succ]
  omega
theorem snoc_inj {m n : List Nat} {c d : Nat} (h : m ++ [c] = n ++ [d]) : m = n ∧ c = d := by
  have := List.append_inj' h rfl
  exact ⟨this.1, by have := this.2; rw [List.cons.injEq] at this; exact this.1⟩
theorem inc_snoc {m : List Nat} {c : Nat} : Inc (m ++ [c]) ↔ Inc m ∧ ∀ x ∈ m, x < c := by
  unfold Inc
  rw [List.pairwise_append]
  exact ⟨fun ⟨a, _, b⟩ => ⟨a, fun x hx => b x hx c (List.mem_singleton.mpr rfl)⟩, fun ⟨a, b⟩ => ⟨a, List.pairwise_singleton _ _, fun x hx y hy => by rw [List.mem_singleton.mp hy]; exact b x hx⟩⟩
theorem mem_subsF {ls : List Nat} (h : Inc ls) : ∀ m, m ∈ subsF ls ↔ Inc m ∧ ∀ c ∈ m, c ∈ ls := by
  revert h
  refine snocInd (P := fun ls => Inc ls → ∀ m, m ∈ subsF ls ↔ Inc m ∧ ∀ c ∈ m, c ∈ ls) (fun _ m => ?_) (fun l c ih h m => ?_) ls
  · show m ∈ [[]] ↔ _
    rw [List.mem_singleton]
    constructor
    · rintro rfl; exact ⟨List.Pairwise.nil, fun _ h => nomatch h⟩
    · rintro ⟨_, h⟩
      cases m with
      | nil => rfl
      | cons a r => exact absurd (h a List.mem_cons_self) List.not_mem_nil
  · obtain ⟨h1, h2⟩ := inc_snoc.mp h
    have ih := ih h1
    rw [subsF_snoc, List.mem_append, List.mem_map, ih]
    constructor
    · rintro (⟨a, b⟩ | ⟨n, hn, rfl⟩)
      · exact ⟨a, fun x hx => List.mem_append_left _ (b x hx)⟩
      · obtain ⟨a, b⟩ := (ih n).mp hn
        refine ⟨inc_snoc.mpr ⟨a, fun x hx => h2 x (b x hx)⟩, fun x hx => ?_⟩
        rcases List.mem_append.mp hx with z | z
        · exact List.mem_append_left _ (b x z)
        · exact List.mem_append_right _ z
    · rintro ⟨a, b⟩
      rcases List.eq_nil_or_concat m with rfl | ⟨n, d, e⟩
      · exact .inl ⟨a, fun _ h => nomatch h⟩
      · rw [List.concat_eq_append] at e
        subst e
        obtain ⟨a1, a2⟩ := inc_snoc.mp a
        have nin : ∀ x ∈ n, x ∈ l ∨ x = c := fun x hx => by
          rcases List.mem_append.mp (b x (List.mem_append_left _ hx)) with z | z
          · exact .inl z
          · exact .inr (List.mem_singleton.mp z)
        rcases List.mem_append.mp (b d (List.mem_append_right _ (List.mem_singleton.mpr rfl))) with z | z
        · refine .inl ⟨a, fun x hx => ?_⟩
          rcases List.mem_append.mp hx with y | y
          · rcases nin x y with q | q
            · exact q
            · have := a2 x y
              have := h2 d z
              omega
          · rw [List.mem_singleton.mp y]; exact z
        · have z := List.mem_singleton.mp z
          subst z
          refine .inr ⟨n, (ih n).mpr ⟨a1, fun x hx => (nin x hx).resolve_right fun e => ?_⟩, rfl⟩
          have := a2 x hx
          omega
theorem subsF_nd {ls : List Nat} (h : Inc ls) : (subsF ls).Nodup := by
  revert h
  refine snocInd (P := fun ls => Inc ls → (subsF ls).Nodup) (fun _ => List.nodup_cons.mpr ⟨List.not_mem_nil, List.nodup_nil⟩) (fun l c ih h => ?_) ls
  obtain ⟨h1, h2⟩ := inc_snoc.mp h
  rw [subsF_snoc]
  refine List.nodup_append.mpr ⟨ih h1, List.pairwise_map.mpr ((ih h1).imp fun hne e => hne (snoc_inj e).1), fun a ha b hb e => ?_⟩
  subst e
  obtain ⟨n, _, rfl⟩ := List.mem_map.mp hb
  have := ((mem_subsF h1 _).mp ha).2 c (List.mem_append_right _ (List.mem_singleton.mpr rfl))
  have := h2 c this
  omega
def bin : Nat → Nat → Nat
  | _, 0 => 1
  | 0, _ + 1 => 0
  | n + 1, k + 1 => bin n (k + 1) + bin n k
theorem subsF_size (ls : List Nat) : ∀ k, ((subsF ls).filter fun m => decide (m.length = k)).length = bin ls.length k := by
  refine snocInd (P := fun ls => ∀ k, ((subsF ls).filter fun m => decide (m.length = k)).length = bin ls.length k) (fun k => ?_) (fun l c ih k => ?_) ls
  · cases k with
    | zero => rfl
    | succ k => rfl
  · rw [subsF_snoc, List.filter_append, List.length_append, ih, List.length_append, List.length_singleton, List.filter_map, List.length_map]
    cases k with
    | zero =>
      have : ((subsF l).filter ((fun m : List Nat => decide (m.length = 0)) ∘ fun m => m ++ [c])) = [] := List.filter_eq_nil_iff.mpr fun m _ => by
        show ¬ decide ((m ++ [c]).length = 0) = true
        rw [List.length_append, List.length_singleton]
        simp
      rw [this]
      cases l.length <;> rfl
    | succ k =>
      have : ((subsF l).filter ((fun m : List Nat => decide (m.length = k + 1)) ∘ fun m => m ++ [c])) = (subsF l).filter fun m => decide (m.length = k) := List.filter_congr fun m _ => by
        show decide ((m ++ [c]).length = k + 1) = _
        rw [List.length_append, List.length_singleton]
        exact decide_eq_decide.mpr (by omega)
      rw [this, ih]
      rfl
theorem bin_le : ∀ n, n ≤ 7 → ∀ k, k ≤ 7 → bin n k ≤ 35 := by decide
/-- the sets of one size, sorted, one size behind the other -/
theorem sets_by_size {ls : List Nat} (h : Inc ls) {os : List (List (List Nat))} (hl : os.length = ls.length)
    (hs : ∀ (k : Nat) o, os[k]? = some o → o.Perm ((subsF ls).filter fun m => decide (m.length = k + 1)) ∧ o.Pairwise fun a b => ltCps b a = false) : SetsOf (fun _ => True) ls os.flatten := by
  have hm : ∀ (k : Nat) o, os[k]? = some o → ∀ m, m ∈ o ↔ (Inc m ∧ ∀ c ∈ m, c ∈ ls) ∧ m.length = k + 1 := fun k o hk m => by
    rw [(hs k o hk).1.mem_iff, List.mem_filter, mem_subsF h, decide_eq_true_eq]
  refine ⟨?_, ?_, fun m => ?_⟩
  · rw [List.pairwise_flatten]
    refine ⟨fun o ho => ?_, List.pairwise_iff_getElem.mpr fun i j hi hj hij a ha b hb => .inl ?_⟩
    · obtain ⟨k, hk⟩ := List.getElem?_of_mem ho
      refine List.Pairwise.imp_of_mem (fun {a b} ha hb hab => ?_) (hs k o hk).2
      exact .inr ⟨by rw [((hm k o hk _).mp ha).2, ((hm k o hk _).mp hb).2], hab⟩
    · rw [((hm i _ (List.getElem?_eq_getElem hi) _).mp ha).2, ((hm j _ (List.getElem?_eq_getElem hj) _).mp hb).2]
      omega
  · show List.Pairwise _ _
    rw [List.pairwise_flatten]
    refine ⟨fun o ho => ?_, List.pairwise_iff_getElem.mpr fun i j hi hj hij a ha b hb e => ?_⟩
    · obtain ⟨k, hk⟩ := List.getElem?_of_mem ho
      exact (hs k o hk).1.nodup_iff.mpr ((subsF_nd h).filter _)
    · have e1 := ((hm i _ (List.getElem?_eq_getElem hi) _).mp ha).2
      have e2 := ((hm j _ (List.getElem?_eq_getElem hj) _).mp hb).2
      rw [e] at e1
      omega
  · rw [List.mem_flatten]
    constructor
    · rintro ⟨o, ho, hmo⟩
      obtain ⟨k, hk⟩ := List.getElem?_of_mem ho
      obtain ⟨⟨a, b⟩, c⟩ := (hm k o hk _).mp hmo
      exact ⟨fun e => (by rw [e] at c; cases c), a, b, trivial⟩
    · rintro ⟨a, b, c, _⟩
      have hl2 : m.length ≤ ls.length := nodup_len (b.imp fun h => Nat.ne_of_lt h) c
      have h0 : 0 < m.length := List.length_pos_iff.mpr a
      have hk : m.length - 1 < os.length := by omega
      exact ⟨_, List.getElem_mem hk, (hm _ _ (List.getElem?_eq_getElem hk) _).mpr ⟨⟨b, c⟩, by omega⟩⟩
theorem SetsOf.few {P : List Nat → Prop} {ls o : List _} (h : SetsOf P ls o) (hi : Inc ls) : o.length ≤ 2 ^ ls.length := by
  rw [← subsF_len]
  exact nodup_len h.nd fun m hm => by
    obtain ⟨_, a, b, _⟩ := (h.mem m).mp hm
    exact (mem_subsF hi m).mpr ⟨a, b⟩
theorem abc_inc {ls : List Nat} (h : Inc ls) (hc : ∀ c ∈ ls, c ∈ capL) : abc ls = ls := lt_uniq (abc_lt ls) h fun c => mem_abc hc
theorem sortedS_pw {ys : List (List Nat)} (h : sortedS (ys.map S) = true) : ys.Pairwise fun a b => ltCps b a = false := by
  have key : ∀ (l : List (List Nat)) (c : List Nat), risingS (S c) (l.map S) = true → (c :: l).Pairwise fun a b => ltCps b a = false := fun l => by
    induction l with
    | nil => exact fun c _ => List.pairwise_singleton _ _
    | cons d l ih =>
      intro c h
      have h : (!ltCps d c && risingS (S d) (l.map S)) = true := h
      rw [Bool.and_eq_true, Bool.not_eq_true'] at h
      have i := ih d h.2
      refine List.pairwise_cons.mpr ⟨fun x hx => ?_, i⟩
      rcases List.mem_cons.mp hx with rfl | hx
      · exact h.1
      · have j := (List.pairwise_cons.mp i).1 x hx
        cases e : ltCps x c with
        | false => rfl
        | true =>
          rcases lt_cross c d x e with k | k
          · rw [k] at h; exact absurd h.1 (by decide)
          · rw [k] at j; cases j
  cases ys with
  | nil => exact List.Pairwise.nil
  | cons c r => exact key r c h
/-! free sets -/
def Free (N : (Nat → Nat) × (Nat → Nat)) (m : List Nat) : Prop := ∀ c ∈ m, ∀ d ∈ m, N.1 c ≠ N.2 d
def maskL (f : Nat → Nat) (m : List Nat) : Nat := m.foldl (fun a c => a ||| 2 ^ f c) 0
theorem maskL_snoc (f : Nat → Nat) (m : List Nat) (c : Nat) : maskL f (m ++ [c]) = maskL f m ||| 2 ^ f c := by
  unfold maskL
  rw [List.foldl_append]
  rfl
theorem mask_bit (f : Nat → Nat) (v : Nat) (m : List Nat) : (maskL f m).testBit v = true ↔ ∃ c ∈ m, f c = v := by
  refine snocInd (P := fun m => (maskL f m).testBit v = true ↔ ∃ c ∈ m, f c = v) ?_ (fun m c ih => ?_) m
  · show (0 : Nat).testBit v = true ↔ _
    rw [Nat.zero_testBit]
    exact ⟨fun h => (by cases h), fun ⟨_, h, _⟩ => nomatch h⟩
  · rw [maskL_snoc, Nat.testBit_or, Bool.or_eq_true, ih, Nat.testBit_two_pow, decide_eq_true_eq]
    constructor
    · rintro (⟨d, hd, e⟩ | e)
      · exact ⟨d, List.mem_append_left _ hd, e⟩
      · exact ⟨c, List.mem_append_right _ (List.mem_singleton.mpr rfl), e⟩
    · rintro ⟨d, hd, e⟩
      rcases List.mem_append.mp hd with z | z
      · exact .inl ⟨d, z, e⟩
      · exact .inr (by rw [← List.mem_singleton.mp z]; exact e)
theorem mask_free (N : (Nat → Nat) × (Nat → Nat)) (m : List Nat) : (maskL N.1 m &&& maskL N.2 m) = 0 ↔ Free N m := by
  constructor
  · intro h c hc d hd e
    have h1 := (mask_bit N.1 (N.1 c) m).mpr ⟨c, hc, rfl⟩
    have h2 := (mask_bit N.2 (N.1 c) m).mpr ⟨d, hd, e.symm⟩
    have h3 : (maskL N.1 m &&& maskL N.2 m).testBit (N.1 c) = true := by rw [Nat.testBit_and, h1, h2]; rfl
    rw [h, Nat.zero_testBit] at h3
    cases h3
  · intro h
    refine Nat.eq_of_testBit_eq fun v => ?_
    rw [Nat.zero_testBit, Nat.testBit_and]
    cases e1 : (maskL N.1 m).testBit v with
    | false => rfl
    | true =>
      cases e2 : (maskL N.2 m).testBit v with
      | false => rfl
      | true =>
        obtain ⟨c, hc, e3⟩ := (mask_bit _ _ _).mp e1
        obtain ⟨d, hd, e4⟩ := (mask_bit _ _ _).mp e2
        exact absurd (e3.trans e4.symm) (h c hc d hd)
theorem mask_lt (f : Nat → Nat) {b : Nat} (h : ∀ c, f c < b) (m : List Nat) : maskL f m < 2 ^ b := by
  refine snocInd (P := fun m => maskL f m < 2 ^ b) (Nat.two_pow_pos b) (fun m c ih => ?_) m
  rw [maskL_snoc]
  exact Nat.or_lt_two_pow ih (Nat.pow_lt_pow_right (by decide) (h c))
theorem or_nat (a b : Nat) : Builtin.bitOr (a : Int) (b : Int) = ((a ||| b : Nat) : Int) := by
  unfold Builtin.bitOr Builtin.bitAnd Builtin.bitNot
  rw [show decide ((0 : Int) ≤ -(a : Int) - 1) = false from decide_eq_false (by omega), show decide ((0 : Int) ≤ -(b : Int) - 1) = false from decide_eq_false (by omega)]
  dsimp only
  rw [show (-(-(a : Int) - 1) - 1).toNat = a by omega, show (-(-(b : Int) - 1) - 1).toNat = b by omega]
  omega
theorem and_nat (a b : Nat) : Builtin.bitAnd (a : Int) (b : Int) = ((a &&& b : Nat) : Int) := by
  unfold Builtin.bitAnd
  rw [show decide ((0 : Int) ≤ (a : Int)) = true from decide_eq_true (by omega), show decide ((0 : Int) ≤ (b : Int)) = true from decide_eq_true (by omega)]
  dsimp only
  rw [Int.toNat_natCast, Int.toNat_natCast]
/-! the levels of the search -/
def rise (m : List Nat) (c : Nat) : Bool := decide (m.drop (m.length - 1) < [c])
theorem rise_iff {m : List Nat} (h : Inc m) (c : Nat) : rise m c = true ↔ ∀ x ∈ m, x < c := by
  unfold rise
  rw [decide_eq_true_eq]
  rcases List.eq_nil_or_concat m with rfl | ⟨n, d, e⟩
  · exact ⟨fun _ _ h => (nomatch h), fun _ => List.nil_lt_cons _ _⟩
  · rw [List.concat_eq_append] at e
    subst e
    rw [List.length_append, List.length_singleton, Nat.add_sub_cancel, List.drop_left]
    obtain ⟨a, b⟩ := inc_snoc.mp h
    have : ([d] < [c]) ↔ d < c := by
      rw [List.cons_lt_cons_iff]
      exact ⟨fun h => h.elim id fun h => absurd h.2 (List.not_lt_nil _), .inl⟩
    rw [this]
    constructor
    · intro h x hx
      rcases List.mem_append.mp hx with z | z
      · have := b x z; omega
      · rw [List.mem_singleton.mp z]; exact h
    · exact fun h => h d (List.mem_append_right _ (List.mem_singleton.mpr rfl))
def freeM (N : (Nat → Nat) × (Nat → Nat)) (m : List Nat) : Bool := decide ((maskL N.1 m &&& maskL N.2 m) = 0)
def ext (ls : List Nat) (L : List (List Nat)) : List (List Nat) := L.flatMap fun m => (ls.filter (rise m)).map fun c => m ++ [c]
def lev (N : (Nat → Nat) × (Nat → Nat)) (ls : List Nat) : Nat → List (List Nat)
  | 0 => [[]]
  | k + 1 => (ext ls (lev N ls k)).filter (freeM N)
theorem lt_app : ∀ (a b x y : List Nat), a.length = b.length → ltCps a b = true → ltCps (a ++ x) (b ++ y) = true
  | [], [], _, _, _, h => by cases h
  | [], _ :: _, _, _, h, _ => by cases h
  | _ :: _, [], _, _, h, _ => by cases h
  | a :: r, b :: t, x, y, hl, h => by
    simp only [List.cons_append, ltCps, Bool.or_eq_true, decide_eq_true_eq, Bool.and_eq_true, beq_iff_eq] at h ⊢
    rcases h with h | ⟨e, h⟩
    · exact .inl h
    · exact .inr ⟨e, lt_app r t x y (by simpa using hl) h⟩
theorem lt_pre : ∀ (a x y : List Nat), ltCps (a ++ x) (a ++ y) = ltCps x y
  | [], _, _ => rfl
  | a :: r, x, y => by
    show (decide (a < a) || (a == a && ltCps (r ++ x) (r ++ y))) = _
    rw [lt_pre r x y]
    simp
theorem lev_ok (N : (Nat → Nat) × (Nat → Nat)) {ls : List Nat} (h : Inc ls) : ∀ k, (lev N ls k).Pairwise (fun a b => ltCps a b = true) ∧ ∀ m, m ∈ lev N ls k ↔ m.length = k ∧ Inc m ∧ (∀ c ∈ m, c ∈ ls) ∧ Free N m
  | 0 => by
    refine ⟨List.pairwise_singleton _ _, fun m => ?_⟩
    show m ∈ [[]] ↔ _
    rw [List.mem_singleton, List.length_eq_zero_iff]
    exact ⟨fun e => by subst e; exact ⟨rfl, List.Pairwise.nil, fun _ h => (nomatch h), fun _ h => nomatch h⟩, fun h => h.1⟩
  | k + 1 => by
    obtain ⟨i1, i2⟩ := lev_ok N h k
    constructor
    · refine List.Pairwise.filter _ ?_
      unfold ext
      rw [List.pairwise_flatMap]
      refine ⟨fun m _ => ?_, ?_⟩
      · rw [List.pairwise_map]
        refine (h.filter _).imp fun {c d} hcd => ?_
        rw [lt_pre]
        simp [ltCps, hcd]
      · refine List.Pairwise.imp_of_mem (fun {a b} ha hb hab x hx y hy => ?_) i1
        obtain ⟨c, _, rfl⟩ := List.mem_map.mp hx
        obtain ⟨d, _, rfl⟩ := List.mem_map.mp hy
        exact lt_app a b _ _ (by rw [((i2 a).mp ha).1, ((i2 b).mp hb).1]) hab
    · intro m
      show m ∈ List.filter _ _ ↔ _
      unfold ext freeM
      rw [List.mem_filter, List.mem_flatMap, decide_eq_true_eq, mask_free]
      constructor
      · rintro ⟨⟨n, hn, hm⟩, hf⟩
        obtain ⟨c, hc, rfl⟩ := List.mem_map.mp hm
        rw [List.mem_filter] at hc
        obtain ⟨a, b, d, _⟩ := (i2 n).mp hn
        refine ⟨by rw [List.length_append, a]; rfl, inc_snoc.mpr ⟨b, (rise_iff b c).mp hc.2⟩, fun x hx => ?_, hf⟩
        rcases List.mem_append.mp hx with z | z
        · exact d x z
        · rw [List.mem_singleton.mp z]; exact hc.1
      · rintro ⟨a, b, d, hf⟩
        rcases List.eq_nil_or_concat m with rfl | ⟨n, c, e⟩
        · cases a
        · rw [List.concat_eq_append] at e
          subst e
          obtain ⟨b1, b2⟩ := inc_snoc.mp b
          rw [List.length_append, List.length_singleton] at a
          refine ⟨⟨n, (i2 n).mpr ⟨by omega, b1, fun x hx => d x (List.mem_append_left _ hx), fun x hx y hy => hf x (List.mem_append_left _ hx) y (List.mem_append_left _ hy)⟩, ?_⟩, hf⟩
          exact List.mem_map.mpr ⟨c, List.mem_filter.mpr ⟨d c (List.mem_append_right _ (List.mem_singleton.mpr rfl)), (rise_iff b1 c).mpr b2⟩, rfl⟩
theorem lev_stop {N : (Nat → Nat) × (Nat → Nat)} {ls : List Nat} {k : Nat} (h : lev N ls k = []) : ∀ j, k ≤ j → lev N ls j = [] := fun j hj => by
  induction j with
  | zero => obtain rfl : k = 0 := by omega
            exact h
  | succ j ih =>
    by_cases e : k ≤ j
    · show List.filter _ (ext ls (lev N ls j)) = []
      rw [ih e]
      rfl
    · obtain rfl : k = j + 1 := by omega
      exact h
def upto (N : (Nat → Nat) × (Nat → Nat)) (ls : List Nat) (k : Nat) : List (List Nat) := (List.range k).flatMap fun j => lev N ls (j + 1)
theorem upto_succ (N : (Nat → Nat) × (Nat → Nat)) (ls : List Nat) (k : Nat) : upto N ls (k + 1) = upto N ls k ++ lev N ls (k + 1) := by
  unfold upto
  rw [List.range_succ, List.flatMap_append, List.flatMap_singleton]
theorem lev_few (N : (Nat → Nat) × (Nat → Nat)) {ls : List Nat} (h : Inc ls) (k : Nat) : (lev N ls k).length ≤ 2 ^ ls.length := by
  rw [← subsF_len]
  obtain ⟨a, b⟩ := lev_ok N h k
  refine nodup_len (a.imp fun hab e => ?_) fun m hm => ?_
  · subst e
    rw [lt_asymm _ _ hab] at hab
    cases hab
  · obtain ⟨_, c, d, _⟩ := (b m).mp hm
    exact (mem_subsF h m).mpr ⟨c, d⟩
theorem lev_long {N : (Nat → Nat) × (Nat → Nat)} {ls : List Nat} (h : Inc ls) {k : Nat} (hk : ls.length < k) : lev N ls k = [] := by
  refine List.eq_nil_iff_forall_not_mem.mpr fun m hm => ?_
  obtain ⟨a, b, c, _⟩ := ((lev_ok N h k).2 m).mp hm
  have : m.length ≤ ls.length := nodup_len (b.imp fun h => Nat.ne_of_lt h) c
  omega
theorem upto_ok {N : (Nat → Nat) × (Nat → Nat)} {ls : List Nat} (h : Inc ls) {k : Nat} (hk : lev N ls k = []) : SetsOf (Free N) ls (upto N ls k) := by
  have hm : ∀ j m, m ∈ lev N ls j ↔ m.length = j ∧ Inc m ∧ (∀ c ∈ m, c ∈ ls) ∧ Free N m := fun j => (lev_ok N h j).2
  refine ⟨?_, ?_, fun m => ?_⟩
  · unfold upto
    rw [List.pairwise_flatMap]
    refine ⟨fun j _ => ?_, ?_⟩
    · refine List.Pairwise.imp_of_mem (fun {a b} ha hb hab => ?_) (lev_ok N h (j + 1)).1
      exact .inr ⟨by rw [((hm _ _).mp ha).1, ((hm _ _).mp hb).1], lt_asymm _ _ hab⟩
    · refine List.pairwise_lt_range.imp fun {i j} hij a ha b hb => .inl ?_
      rw [((hm _ _).mp ha).1, ((hm _ _).mp hb).1]
      omega
  · show List.Pairwise _ _
    unfold upto
    rw [List.pairwise_flatMap]
    refine ⟨fun j _ => (lev_ok N h (j + 1)).1.imp fun hab e => ?_, ?_⟩
    · subst e
      rw [lt_asymm _ _ hab] at hab
      cases hab
    · refine List.pairwise_lt_range.imp fun {i j} hij a ha b hb e => ?_
      have e1 := ((hm _ _).mp ha).1
      have e2 := ((hm _ _).mp hb).1
      rw [e] at e1
      omega
  · unfold upto
    rw [List.mem_flatMap]
    constructor
    · rintro ⟨j, _, hj⟩
      obtain ⟨a, b, c, d⟩ := (hm _ _).mp hj
      exact ⟨fun e => (by rw [e] at a; cases a), b, c, d⟩
    · rintro ⟨a, b, c, d⟩
      have h0 : 0 < m.length := List.length_pos_iff.mpr a
      refine ⟨m.length - 1, List.mem_range.mpr ?_, (hm _ _).mpr ⟨by omega, b, c, d⟩⟩
      by_cases e : m.length ≤ k
      · omega
      · have q := lev_stop hk m.length (by omega)
        have : m ∈ lev N ls m.length := (hm _ _).mpr ⟨rfl, b, c, d⟩
        rw [q] at this
        exact absurd this List.not_mem_nil
theorem upto_few (N : (Nat → Nat) × (Nat → Nat)) {ls : List Nat} (h : Inc ls) (k : Nat) : (upto N ls k).length ≤ k * 2 ^ ls.length := by
  induction k with
  | zero => exact Nat.zero_le _
  | succ k ih =>
    rw [upto_succ, List.length_append, Nat.succ_mul]
    have := lev_few N h (k + 1)
    omega

/-! ### sets of letters as they are written -/
/-- a set of letters of a pattern, as it is written -/
def LSet (l m : List Nat) : Prop := m ≠ [] ∧ m = (abc l).filter fun c => decide (c ∈ m)
/-- what is left of a pattern, perhaps nothing -/
structure PatW (l : List Nat) : Prop where
  hi : l.length ≤ 20
  cap : ∀ c ∈ l, c ∈ capL
  few : (dist l).length ≤ 7
theorem _root_.Lw.Pat.w {l : List Nat} (h : Pat l) : PatW l := ⟨h.hi, h.cap, h.few⟩
def lsetD (l : List Nat) (d : PyData) : Bool := dStr d && (decide (strOf d ≠ []) && decide (strOf d = (abc l).filter fun c => decide (c ∈ strOf d)))
theorem lset_mem {l m : List Nat} (h : lsetD l (.str (S m)) = true) : ∀ c ∈ m, c ∈ abc l := fun c hc => by
  have h : (decide (m ≠ []) && decide (m = (abc l).filter fun c => decide (c ∈ m))) = true := h
  rw [Bool.and_eq_true, decide_eq_true_eq, decide_eq_true_eq] at h
  rw [h.2] at hc
  exact (List.mem_filter.mp hc).1
theorem lset_len {l m : List Nat} (h : lsetD l (.str (S m)) = true) : m.length ≤ 26 := by
  have h : (decide (m ≠ []) && decide (m = (abc l).filter fun c => decide (c ∈ m))) = true := h
  rw [Bool.and_eq_true, decide_eq_true_eq, decide_eq_true_eq] at h
  rw [h.2]
  exact Nat.le_trans (List.length_filter_le _ _) (abc_le l)
theorem lset_inc {l m : List Nat} (h : lsetD l (.str (S m)) = true) : Inc m ∧ ∀ c ∈ m, c ∈ abc l := by
  refine ⟨?_, lset_mem h⟩
  have h : (decide (m ≠ []) && decide (m = (abc l).filter fun c => decide (c ∈ m))) = true := h
  rw [Bool.and_eq_true, decide_eq_true_eq, decide_eq_true_eq] at h
  rw [h.2]
  exact (abc_lt l).filter _
theorem no_inc {l m : List Nat} (h : ¬ Inc m) : lsetD l (.str (S m)) = false := by
  cases e : lsetD l (.str (S m)) with
  | false => rfl
  | true => exact absurd (lset_inc e).1 h
theorem no_in {l m : List Nat} {c : Nat} (hc : c ∈ m) (h : c ∉ abc l) : lsetD l (.str (S m)) = false := by
  cases e : lsetD l (.str (S m)) with
  | false => rfl
  | true => exact absurd ((lset_inc e).2 c hc) h
theorem not_abc {l : List Nat} {c : Nat} (h : c ∉ capL) : c ∉ abc l := fun z => h (abc_cap z)

/-! ### lists of words as data, bools, free sets as bools -/
def freeB (l m : List Nat) : Bool := decide ((m.filter fun c => decide ((numb (abc l) (pairsL l)).1 c ∈ m.map (numb (abc l) (pairsL l)).2)) = [])
theorem lite_codes {D k : Nat} {d : PyData} (h : Lite D k d) : ∀ c ∈ strOf d, c < 0x110000 := fun c hc => by
  cases d with
  | str z =>
    have q := h.c
    simp only [PyData.canLay0, PyData.strOk] at q
    have := Array.all_eq_true_iff_forall_mem.mp q c (by simpa [strOf] using hc)
    exact of_decide_eq_true this
  | _ => exact absurd hc List.not_mem_nil
theorem lite_len {D k : Nat} {d : PyData} (h : Lite D k d) : (strOf d).length ≤ k := by
  cases d with
  | str z => exact h.len
  | _ => exact Nat.zero_le _
theorem lite_two {d e : PyData} (h : Lite 50 20000 d) (k : Lite 50 20000 e) : Lite 51 50000 (.tuple [d, e]) := lite_tup (D := 50) (k := 20000) (fun x hx => by
  rcases List.mem_cons.mp hx with rfl | hx
  · exact h
  · rcases List.mem_cons.mp hx with rfl | hx
    · exact k
    · exact absurd hx List.not_mem_nil) (by show 2 * 20001 ≤ 50000; decide)
theorem freeB_iff {l m : List Nat} : freeB l m = true ↔ Free (numb (abc l) (pairsL l)) m := by
  unfold freeB
  rw [decide_eq_true_eq, List.filter_eq_nil_iff]
  constructor
  · intro h c hc d hd e
    exact h c hc (decide_eq_true (by rw [e]; exact List.mem_map_of_mem hd))
  · intro h c hc z
    obtain ⟨d, hd, e⟩ := List.mem_map.mp (of_decide_eq_true z)
    exact h c hc d hd e.symm
theorem freeM_iff {N : (Nat → Nat) × (Nat → Nat)} {m : List Nat} : freeM N m = true ↔ Free N m := by
  unfold freeM
  rw [decide_eq_true_eq, mask_free]
def dataL (o : List (List Nat)) : PyData := .list (o.map dW)
theorem dp_list {K : PySem.W.Frag} {H : Hp} {a : Addr} {o : List (List Nat)} (h : H a = some (.lst (o.map vW))) : Dp K H (.ref a) (dataL o) := .lst (SqL.of h) (dpAll_words o)
theorem dataL_shows {o : List (List Nat)} {n : Nat} (h : ∀ m ∈ o, m.length ≤ 20 ∧ ∀ c ∈ m, c < 0x110000) (hn : o.length ≤ n) (h2 : n ≤ 9000) : Shows (dataL o) :=
  (lite_lst (D := 1) (k := 20) (m := 189000) (fun d hd => by
    obtain ⟨m, hm, rfl⟩ := List.mem_map.mp hd
    exact lite_str (h m hm).1 (h m hm).2) (by rw [List.length_map]; show _ * 21 ≤ _; omega)).shows (by decide) (by decide)
theorem in_words (m : List Nat) (o : List (List Nat)) : inV (vW m) (o.map vW) = decide (m ∈ o) := by
  induction o with
  | nil => rfl
  | cons x r ih =>
    have e : inV (vW m) ((x :: r).map vW) = ((S x == S m) || inV (vW m) (r.map vW)) := rfl
    rw [e, ih]
    by_cases h : m = x
    · subst h; simp
    · rw [show (S x == S m) = false from beq_eq_false_iff_ne.mpr fun z => h (SX.S_inj z).symm, Bool.false_or]
      exact decide_eq_decide.mpr ⟨fun z => List.mem_cons_of_mem _ z, fun z => (List.mem_cons.mp z).resolve_left h⟩
theorem flat_words (o : List (List Nat)) : (o.map vW).all flatV = true := List.all_eq_true.mpr fun x hx => by
  obtain ⟨n, _, rfl⟩ := List.mem_map.mp hx
  rfl
theorem lset_own {l m : List Nat} (h0 : m ≠ []) (h1 : Inc m) (h2 : ∀ c ∈ m, c ∈ abc l) : lsetD l (.str (S m)) = true := by
  show (decide (m ≠ []) && decide (m = (abc l).filter fun c => decide (c ∈ m))) = true
  rw [Bool.and_eq_true, decide_eq_true_eq, decide_eq_true_eq]
  refine ⟨h0, lt_uniq h1 ((abc_lt l).filter _) fun c => ?_⟩
  rw [List.mem_filter, decide_eq_true_eq]
  exact ⟨fun h => ⟨h2 c h, h⟩, fun h => h.2⟩
theorem bool_shows (b : Bool) : Shows (.bool b) := by cases b <;> exact ⟨rfl, by decide, by decide +kernel⟩

/-! ### while by a falling number that the state does not show; comprehensions of two generators -/
theorem while_gh {c : TT} {tb : TS} {D : Ends} {σ : L2.St} {H : Hp} (Pv : Nat → L2.St → Hp → Prop) {n : Nat} (h0 : Pv n σ H)
    (hs : ∀ m σ H, Pv m σ H → ∀ R : Bool → Hp → Prop, (∀ b H1, (if b = true then tb { D with nx := fun σ' H' => ∃ m', m' < m ∧ Pv m' σ' H', ct := fun σ' H' => ∃ m', m' < m ∧ Pv m' σ' H', bk := D.nx } σ H1 else D.nx σ H1) → R b H1) → c σ H R) : tWhile c tb D σ H := by
  refine ⟨Pv, ⟨_, h0⟩, ?_⟩
  intro m σ H p
  refine hs m σ H p _ fun b H1 q => ?_
  cases b with
  | true => exact ⟨_, fun σ' H' h => h, q⟩
  | false => exact q
theorem lc2_it {J : It} {n : Nat} {G : Hp → Prop} {Y : Nat → Hp → V → Hp → Prop} (w : Walk J n G Y) {g g1 : TG} {tt tt1 : TT} {wi1 : TI} {te : TE} {vs vs1 : List Nat} {σ : L2.St} {H1 : Hp} {D : Addr} {Qd : Hp → Prop} (Pv : Nat → Hp → Prop) (h0 : Pv 0 (upd H1 D (.lst [])))
    (hG : ∀ i H, i ≤ n → Pv i H → G H)
    (hs : ∀ i x H H', i < n → Pv i H → Y i H x H' → g x (wipe σ vs) H' fun σ2 H2 => wipe σ2 vs = wipe σ vs ∧ tt σ2 H2 fun b H3 =>
      if b = true then wi1 σ2 H3 fun J1 H4 => ∃ W1 : Nat → Nat → Hp → Prop, (∃ m, W1 0 m H4) ∧ ∀ j k H, W1 j k H →
        (J1.stop j H ∧ Pv (i + 1) H) ∨ (J1.go j H ∧ ∃ Nx1 : Hp → Prop, (∀ H', Nx1 H' → ∃ k', k' < k ∧ W1 (j + 1) k' H') ∧ ∀ x H', J1.yld j H x H' → g1 x (wipe σ2 vs1) H' fun σ3 H5 => wipe σ3 vs1 = wipe σ2 vs1 ∧ tt1 σ3 H5 fun b H6 =>
          if b = true then te σ3 H6 fun y H7 => ∃ acc, H7 D = some (.lst acc) ∧ acc.length < sizeLine ∧ Nx1 (upd H7 D (.lst (acc ++ [y]))) else Nx1 H6)
      else Pv (i + 1) H3) (hd : ∀ H, Pv n H → Qd H) :
    ∃ W : Nat → Nat → Hp → Prop, (∃ m, W 0 m (upd H1 D (.lst []))) ∧ ∀ i m H, W i m H →
      (J.stop i H ∧ Qd H) ∨ (J.go i H ∧ ∃ Nx : Hp → Prop, (∀ H', Nx H' → ∃ m', m' < m ∧ W (i + 1) m' H') ∧ ∀ x H', J.yld i H x H' → g x (wipe σ vs) H' fun σ2 H2 => wipe σ2 vs = wipe σ vs ∧ tt σ2 H2 fun b H3 =>
        if b = true then wi1 σ2 H3 fun J1 H4 => ∃ W1 : Nat → Nat → Hp → Prop, (∃ m, W1 0 m H4) ∧ ∀ j k H, W1 j k H →
          (J1.stop j H ∧ Nx H) ∨ (J1.go j H ∧ ∃ Nx1 : Hp → Prop, (∀ H', Nx1 H' → ∃ k', k' < k ∧ W1 (j + 1) k' H') ∧ ∀ x H', J1.yld j H x H' → g1 x (wipe σ2 vs1) H' fun σ3 H5 => wipe σ3 vs1 = wipe σ2 vs1 ∧ tt1 σ3 H5 fun b H6 =>
            if b = true then te σ3 H6 fun y H7 => ∃ acc, H7 D = some (.lst acc) ∧ acc.length < sizeLine ∧ Nx1 (upd H7 D (.lst (acc ++ [y]))) else Nx1 H6)
        else Nx H3) := by
  refine ⟨fun i m H => m = n - i ∧ i ≤ n ∧ Pv i H, ⟨n, by simp, Nat.zero_le _, h0⟩, ?_⟩
  rintro i m H ⟨rfl, hi, p⟩
  have q := hG i H hi p
  by_cases hlt : i < n
  · exact .inr ⟨w.goes i H hlt q, Pv (i + 1), fun H' p' => ⟨n - (i + 1), by omega, rfl, hlt, p'⟩, fun x H' y => hs i x H H' hlt p (w.yields i H x H' hlt q y)⟩
  · obtain rfl : i = n := by omega
    exact .inl ⟨w.stops H q, hd H p⟩
theorem lc_in {J : It} {n : Nat} {G : Hp → Prop} {Y : Nat → Hp → V → Hp → Prop} (w : Walk J n G Y) {g1 : TG} {tt1 : TT} {te : TE} {vs1 : List Nat} {σ2 : L2.St} {H4 : Hp} {D : Addr} {Qd : Hp → Prop} (Pv : Nat → Hp → Prop) (h0 : Pv 0 H4)
    (hG : ∀ i H, i ≤ n → Pv i H → G H)
    (hs : ∀ i x H H', i < n → Pv i H → Y i H x H' → g1 x (wipe σ2 vs1) H' fun σ3 H5 => wipe σ3 vs1 = wipe σ2 vs1 ∧ tt1 σ3 H5 fun b H6 =>
      if b = true then te σ3 H6 fun y H7 => ∃ acc, H7 D = some (.lst acc) ∧ acc.length < sizeLine ∧ Pv (i + 1) (upd H7 D (.lst (acc ++ [y]))) else Pv (i + 1) H6) (hd : ∀ H, Pv n H → Qd H) :
    ∃ W1 : Nat → Nat → Hp → Prop, (∃ m, W1 0 m H4) ∧ ∀ j k H, W1 j k H →
      (J.stop j H ∧ Qd H) ∨ (J.go j H ∧ ∃ Nx1 : Hp → Prop, (∀ H', Nx1 H' → ∃ k', k' < k ∧ W1 (j + 1) k' H') ∧ ∀ x H', J.yld j H x H' → g1 x (wipe σ2 vs1) H' fun σ3 H5 => wipe σ3 vs1 = wipe σ2 vs1 ∧ tt1 σ3 H5 fun b H6 =>
        if b = true then te σ3 H6 fun y H7 => ∃ acc, H7 D = some (.lst acc) ∧ acc.length < sizeLine ∧ Nx1 (upd H7 D (.lst (acc ++ [y]))) else Nx1 H6) := by
  refine ⟨fun i m H => m = n - i ∧ i ≤ n ∧ Pv i H, ⟨n, by simp, Nat.zero_le _, h0⟩, ?_⟩
  rintro i m H ⟨rfl, hi, p⟩
  have q := hG i H hi p
  by_cases hlt : i < n
  · exact .inr ⟨w.goes i H hlt q, Pv (i + 1), fun H' p' => ⟨n - (i + 1), by omega, rfl, hlt, p'⟩, fun x H' y => hs i x H H' hlt p (w.yields i H x H' hlt q y)⟩
  · obtain rfl : i = n := by omega
    exact .inl ⟨w.stops H q, hd H p⟩
/-- some of the tuples of a list -/
theorem lc_pick {J : It} {G : Hp → Prop} {α : Type} (xs : List α) (o : α → List V) (p : α → Bool) {ys : List V} {H1 : Hp} (hT : TupsAt H1 ys (xs.map o)) (w : Walk J ys.length G (YAt ys)) {g : TG} {tt : TT} {te : TE} {vs : List Nat} {σ : L2.St} {D : Addr} {Qd : Hp → Prop}
    (hD : H1 D = none) (hn : xs.length ≤ 100000) (hG : ∀ H', Same H1 H' → G H')
    (hs : ∀ (i : Nat) a t H' (Rk : VK) (N : Hp → Prop), xs[i]? = some a → Same H1 H' → H' t = some (.tup (o a)) → (p a = true → ∀ H4, Same H' H4 → Rk (.ref t) H4) → (p a = false → ∀ H4, Same H' H4 → N H4) →
      g (.ref t) (wipe σ vs) H' fun σ2 H2 => wipe σ2 vs = wipe σ vs ∧ tt σ2 H2 fun b H3 => if b = true then te σ2 H3 Rk else N H3)
    (hd : ∀ H' zs, Same H1 H' → H' D = some (.lst zs) → TupsAt H' zs ((xs.filter p).map o) → Qd H') :
    ∃ W : Nat → Nat → Hp → Prop, (∃ m, W 0 m (upd H1 D (.lst []))) ∧ ∀ i m H, W i m H →
      (J.stop i H ∧ Qd H) ∨ (J.go i H ∧ ∃ Nx : Hp → Prop, (∀ H', Nx H' → ∃ m', m' < m ∧ W (i + 1) m' H') ∧ ∀ x H', J.yld i H x H' → g x (wipe σ vs) H' fun σ2 H2 => wipe σ2 vs = wipe σ vs ∧ tt σ2 H2 fun b H3 =>
        if b = true then te σ2 H3 fun y H4 => ∃ acc, H4 D = some (.lst acc) ∧ acc.length < sizeLine ∧ Nx (upd H4 D (.lst (acc ++ [y]))) else Nx H3) := by
  have hl : ys.length = xs.length := by rw [hT.len, List.length_map]
  have w2 : Walk J xs.length G (YAt ys) := by rw [hl] at w; exact w
  refine lc_tup xs p o w2 hD hn hG (fun i a x H' H'' Rk N ha s y hR hN => ?_) hd
  obtain ⟨e, hx⟩ := y
  subst e
  obtain ⟨o2, t, ho, rfl, ht⟩ := hT.at hx
  rw [List.getElem?_map, ha] at ho
  obtain rfl := Option.some.inj ho
  exact hs i a t _ Rk N ha s (s _ _ ht) (fun hp H4 s4 => hR hp t H4 s4 (s4 _ _ (s _ _ ht))) hN
theorem cutL_last {α : Type} (xs : List α) : cutL xs (some (-1)) none = xs.drop (xs.length - 1) := by
  have e : HT.sIx xs.length 0 (some (-1)) = xs.length - 1 := by
    unfold HT.sIx
    simp
    omega
  unfold cutL
  rw [e, HT.sIx_none, List.take_of_length_le (by rw [List.length_drop]; exact Nat.le_refl _)]
theorem numb_le (ls : List Nat) (J : List (Nat × Nat)) : ∀ c, (numb ls J).1 c ≤ 2 * ls.length ∧ (numb ls J).2 c ≤ 2 * ls.length := by
  refine snocInd (P := fun J => ∀ c, (numb ls J).1 c ≤ 2 * ls.length ∧ (numb ls J).2 c ≤ 2 * ls.length) (fun c => ?_) (fun J q ih c => ?_) J
  · have : ls.idxOf c ≤ ls.length := List.idxOf_le_length
    show ls.idxOf c ≤ _ ∧ ls.length + ls.idxOf c ≤ _
    omega
  · have eN : numb ls (J ++ [q]) = mergeN (numb ls J) q := by unfold numb; rw [List.foldl_append]; rfl
    rw [eN]
    unfold mergeN
    dsimp only
    constructor
    · split
      · exact (ih _).1
      · exact (ih _).1
    · split
      · exact (ih _).1
      · exact (ih _).2

/-! ### text[::-1] -/
theorem rev_fm {α : Type} (xs : List α) : ∀ n, n ≤ xs.length → ((List.range n).map fun k => xs.length - 1 - k).filterMap (xs[·]?) = xs.reverse.take n
  | 0, _ => rfl
  | n + 1, h => by
    have ih := rev_fm xs n (by omega)
    have hl : xs.length - 1 - n < xs.length := by omega
    rw [List.range_succ, List.map_append, List.filterMap_append, ih, List.map_cons, List.map_nil, List.filterMap_cons_some (List.getElem?_eq_getElem hl), List.filterMap_nil, List.take_add_one, List.getElem?_reverse (by omega), List.getElem?_eq_getElem hl]
    rfl
theorem rev_picked (l : List Nat) (k : Tok) : (slicePicked (S l) none none (some (-1, k))).filterMap ((S l).cps[·]?) = l.reverse := by
  have e1 : slicePicked (S l) none none (some (-1, k)) = (List.range l.length).map fun j => l.length - 1 - j := by
    show Builtin.Str.strSliceIndices none none (-1) (S l).length = _
    rw [len_S]
    unfold Builtin.Str.strSliceIndices sliceRange
    simp only [gt_iff_lt, show ¬ ((0 : Int) < -1) by decide, if_false]
    have e2 : (if -1 < (l.length : Int) - 1 then ((l.length : Int) - 1 - -1 - -1 - 1) / (- -1) else 0).toNat = l.length := by
      split
      · rw [show (- -1 : Int) = 1 by rfl, Int.ediv_one]
        omega
      · omega
    rw [e2]
    refine List.map_congr_left fun j hj => ?_
    have := List.mem_range.mp hj
    omega
  rw [e1]
  have e3 : ∀ i : Nat, (S l).cps[i]? = l[i]? := fun i => by simp [S]
  have e4 : (fun i : Nat => (S l).cps[i]?) = fun i : Nat => l[i]? := funext e3
  show List.filterMap (fun i : Nat => (S l).cps[i]?) _ = _
  rw [e4, rev_fm l l.length (Nat.le_refl _), List.take_of_length_le (by rw [List.length_reverse]; exact Nat.le_refl _)]
section
variable {X : Cx} {e se : Expr} {te ts : TE} {pos p2 : Pos}
def tRevS (te ts : TE) : TE := fun σ H Q => te σ H fun x H1 => ts σ H1 fun c H2 => ∃ l : List Nat, x = .str (S l) ∧ c = .int (-1) ∧ l.length ≤ 100000 ∧ Q (.str (S l.reverse)) H2
theorem pe_revS (he : PE X e te) (hs : PE X se ts) : PE X (.Subscript e (.Slice none none (some se) p2) pos) (tRevS te ts) := by
  constructor
  intro pins s σ H Q I h
  refine Subscript_ (thn (he.run pins s σ H _ I h) fun v s1 ⟨x, H1, I1, r1, q1⟩ => ?_)
  refine wpAny_Slice ?_
  rw [evalPart_none]
  refine wpAny_pure (wpAny_pure ?_)
  rw [evalPart_some]
  refine thn (hs.run pins s1 σ H1 _ I1 q1) fun vs s4 ⟨c, H4, I4, r4, q4⟩ => ?_
  obtain ⟨l, rfl, rfl, hl, q⟩ := q4
  obtain ⟨t, rfl⟩ := r4
  obtain ⟨t1, rfl⟩ := r1
  have I5 : Inv X pins σ H4 { s4 with heap := s4.heap.push { cls := .type "slice", data := .fields #[.none, .none, .int (-1) t] } } := I4.kept (t' := s4.toks) fun b ob q => Heap.get?_push_of_some _ q
  have hg : wpAny (model X.prog X.w) X.A (getItem (.str (S l) t1) (.ref s4.heap.objs.size)) (EP X pins σ Q) X.xe { s4 with heap := s4.heap.push { cls := .type "slice", data := .fields #[.none, .none, .int (-1) t] } } := by
    refine wpAny_getItem_str_slice (l := none) (u := none) (st := some (-1, t)) ⟨_, Heap.get?_push_size _ rfl, rfl, rfl⟩ rfl ?_
    unfold sliceMade
    rw [if_neg (by simp), rev_picked]
    refine ⟨?_, .str (S l.reverse), H4, I5.tok _, ⟨_, rfl⟩, q⟩
    show (l.reverse.toArray).size ≤ sizeLine
    rw [List.size_toArray, List.length_reverse, sizeLine_eq]
    omega
  change wpAny (model X.prog X.w) X.A (subscriptTail e (.Slice none none (some se) p2) (.str (S l) t1) (.ref s4.heap.objs.size)) (EP X pins σ Q) X.xe _
  exact tail_any (ops := [.ref s4.heap.objs.size, .str (S l) t1]) (typeIs_str _ _ _) F.slot_str_getitem.lookup hg (by with_unfolding_all rfl)
end

/-! ### pairs of texts as data -/
def pairD (q : List Nat × List Nat) : PyData := .tuple [.str (S q.1), .str (S q.2)]
theorem pairs_dp {K : PySem.W.Frag} {H : Hp} {key : V → List Nat × List Nat} : ∀ {xs : List V}, (∀ x ∈ xs, ∃ t, x = V.ref t ∧ H t = some (.tup [.str (S (key x).1), .str (S (key x).2)])) → DpAll K H xs ((xs.map key).map pairD)
  | [], _ => .nil
  | x :: xs, h => by
    obtain ⟨t, e, ht⟩ := h x List.mem_cons_self
    have r := pairs_dp (K := K) fun y hy => h y (List.mem_cons_of_mem _ hy)
    rw [List.map_cons, List.map_cons]
    refine .cons ?_ r
    have hd : Dp K H (.ref t) (pairD (key x)) := .tup (SqT.of ht) (.cons (.str _) (.cons (.str _) .nil))
    rw [← e] at hd
    exact hd
theorem parts_few {l : List Nat} {ps : List (List Nat × List Nat)} (h : PartsOf l ps) (hl : l.length ≤ 20) : ps.length ≤ 40 := by
  have hd := dist_len l
  have q := nodup_len (m := (allN l).map fun x => partN (numb (abc l) (pairsL l)) (abc l) (nod (numb (abc l) (pairsL l)) x)) h.nd fun p hp => by
    obtain ⟨x, hx, e⟩ := (h.mem p).mp hp
    exact List.mem_map.mpr ⟨x, mem_allN.mpr hx, e.symm⟩
  unfold allN at q
  rw [List.length_map, List.length_append, List.length_map, List.length_map] at q
  omega
theorem parts_lite {l : List Nat} {ps : List (List Nat × List Nat)} (h : PartsOf l ps) (hl : l.length ≤ 20) : Lite 3 5000 (.list (ps.map pairD)) := by
  have le := abc_le l
  have one : ∀ q ∈ ps, Lite 2 100 (pairD q) := fun q hq => by
    obtain ⟨x, _, e⟩ := (h.mem q).mp hq
    have p1 : q.1.length ≤ 26 ∧ ∀ c ∈ q.1, c < 0x110000 := by
      rw [e]
      exact ⟨Nat.le_trans (List.length_filter_le _ _) le, fun c hc => cap_lt (abc_cap (List.mem_filter.mp hc).1)⟩
    have p2 : q.2.length ≤ 26 ∧ ∀ c ∈ q.2, c < 0x110000 := by
      rw [e]
      exact ⟨Nat.le_trans (List.length_filter_le _ _) le, fun c hc => cap_lt (abc_cap (List.mem_filter.mp hc).1)⟩
    exact lite_tup (D := 1) (k := 26) (fun d hd => by
      rcases List.mem_cons.mp hd with rfl | hd
      · exact lite_str p1.1 p1.2
      · rw [List.mem_singleton.mp hd]; exact lite_str p2.1 p2.2) (by show 2 * 27 ≤ 100; decide)
  have hf := parts_few h hl
  exact lite_lst (D := 2) (k := 100) (m := 5000) (fun d hd => by
    obtain ⟨q, hq, rfl⟩ := List.mem_map.mp hd
    exact one q hq) (by rw [List.length_map]; show _ * 101 ≤ _; omega)
theorem parts_shows {l : List Nat} {ps : List (List Nat × List Nat)} (h : PartsOf l ps) (hl : l.length ≤ 20) : Shows (.list (ps.map pairD)) := (parts_lite h hl).shows (by decide) (by decide)
theorem lite_shaped {D k : Nat} {d : PyData} (h : Lite D k d) (hD : D ≤ 64) : SeqAt.shaped d = true := by
  unfold SeqAt.shaped
  rw [Bool.and_eq_true]
  exact ⟨h.c, decide_eq_true (Nat.le_trans h.dp hD)⟩
theorem ne_self {d : PyData} (h : SeqAt.shaped d = true) : (!PyData.eqv d d) = false := by
  unfold SeqAt.shaped at h
  rw [Bool.and_eq_true] at h
  rw [SeqAt.eqv_refl d h.1]
  rfl
theorem listL_lite {o : List (List Nat)} (h : ∀ m ∈ o, m.length ≤ 20 ∧ ∀ c ∈ m, c < 0x110000) (hn : o.length ≤ 9000) : Lite 2 189000 (dataL o) := lite_lst (D := 1) (k := 20) (m := 189000) (fun d hd => by
  obtain ⟨m, hm, rfl⟩ := List.mem_map.mp hd
  exact lite_str (h m hm).1 (h m hm).2) (by rw [List.length_map]; show _ * 21 ≤ _; omega)

/-! ### chains -/
def outL (l m : List Nat) : List Nat := l.filter fun c => decide (c ∉ m)
def chainGo : List Nat → List PyData → Bool
  | l, [] => decide (l = [])
  | l, e :: ds => lsetD l e && (freeB l (strOf e) && chainGo (outL l (strOf e)) ds)
def chainD (l : List Nat) : PyData → Bool
  | .list ds => chainGo l ds
  | _ => false
theorem PatW.out {l : List Nat} (h : PatW l) (m : List Nat) : PatW (outL l m) := by
  refine ⟨Nat.le_trans (List.length_filter_le _ _) h.hi, fun c hc => h.cap c (List.mem_filter.mp hc).1, Nat.le_trans (nodup_len (dist_nodup _) fun c hc => mem_dist.mpr ?_) h.few⟩
  exact (List.mem_filter.mp (mem_dist.mp hc)).1
theorem PatW.pat {l : List Nat} (h : PatW l) (h0 : l ≠ []) : Pat l := ⟨List.length_pos_iff.mpr h0, h.hi, h.cap, h.few⟩
theorem lset_nil {d : PyData} : lsetD [] d = false := by
  cases d with
  | str z =>
    cases e : lsetD [] (.str z) with
    | false => rfl
    | true =>
      have h1 := lset_mem (l := []) (m := z.cps.toList) e
      have h2 : (decide (z.cps.toList ≠ []) && decide (z.cps.toList = (abc []).filter fun c => decide (c ∈ z.cps.toList))) = true := e
      rw [Bool.and_eq_true, decide_eq_true_eq, decide_eq_true_eq] at h2
      have h3 : (abc []).filter (fun c => decide (c ∈ z.cps.toList)) = [] := by rw [show abc [] = [] by decide]; rfl
      exact absurd (h2.2.trans h3) h2.1
  | _ => rfl
theorem FnOk.or {P : Program} {w : World} {K : PySem.W.Frag} {mg : Str → Option Value} {base : Heap} {CX : CXT} {k : Nat} {f : Addr} {fd : FuncData} {ps : List Str} {sp sp' : Sp} (F : FnOk P w K mg base CX k f fd ps sp) (G : FnOk P w K mg base CX k f fd ps sp') :
    FnOk P w K mg base CX k f fd ps (fun vs H Q E => sp vs H Q E ∨ sp' vs H Q E) :=
  ⟨fun vs H Q E h => h.elim (F.len vs H Q E) (G.len vs H Q E), fun A outer s H args us vs Q E hr he hb hv h => h.elim (F.run A outer s H args us vs Q E hr he hb hv) (G.run A outer s H args us vs Q E hr he hb hv)⟩
/-- what may stand in a chain, as far as it is asked -/
def OwnOk (f : PyData) : Prop := (strOf f).length < 64 ∧ ((∀ c ∈ strOf f, c ∈ capL) ∨ ((strOf f).length = 1 ∧ ∀ c ∈ strOf f, c < 0x110000 ∧ c ∉ capL))
def ItemsOk : PyData → Prop
  | .list ds => ∀ f ∈ ds, OwnOk f
  | _ => True
theorem OwnOk.code {f : PyData} (h : OwnOk f) : ∀ c ∈ strOf f, c < 0x110000 := fun c hc => h.2.elim (fun k => cap_lt (k c hc)) fun k => (k.2 c hc).1
theorem lset_caps {l m : List Nat} (h : ∀ c ∈ m, c ∈ capL) : lsetD l (.str (S m)) = true ↔ m ≠ [] ∧ abc m = m ∧ outL m l = [] ∧ True := by
  constructor
  · intro k
    obtain ⟨a, b⟩ := lset_inc k
    have k2 : (decide (m ≠ []) && decide (m = (abc l).filter fun c => decide (c ∈ m))) = true := k
    rw [Bool.and_eq_true, decide_eq_true_eq] at k2
    refine ⟨k2.1, abc_inc a h, List.filter_eq_nil_iff.mpr fun c hc z => ?_, trivial⟩
    have := b c hc
    unfold abc at this
    exact of_decide_eq_true z (of_decide_eq_true (List.mem_filter.mp this).2)
  · rintro ⟨a, b, c, _⟩
    have h2 : Inc m := by rw [← b]; exact abc_lt m
    refine lset_own a h2 fun x hx => ?_
    have := List.filter_eq_nil_iff.mp c x hx
    have hxl : x ∈ l := by
      by_cases q : x ∈ l
      · exact q
      · exact absurd (decide_eq_true q) this
    unfold abc
    exact List.mem_filter.mpr ⟨h x hx, decide_eq_true hxl⟩
theorem dec_ne {r : List Nat} (h : r ≠ []) : decide (V.str (S r) = V.str ("" : String)) = false := decide_eq_false fun z => h (SX.S_inj (V.str.inj z : S r = S []))
theorem atI_last {α : Type} (xs : List α) (x : α) : atI (xs ++ [x]) (-1) = some x := by
  have e : ixN (xs ++ [x]).length (-1) = some xs.length := by
    unfold ixN
    rw [List.length_append, List.length_singleton, if_neg (by decide), if_pos (by omega)]
    congr 1
    omega
  unfold atI
  rw [e]
  simp
/-! what the law of chains tries -/
theorem good_list {ds : List PyData} (h : ∀ d ∈ ds, OwnOk d ∧ Lite 20 200 d) (hn : ds.length ≤ 60) : Lite 50 20000 (.list ds) ∧ ItemsOk (.list ds) :=
  ⟨(lite_lst (D := 20) (k := 200) (m := 20000) (fun d hd => (h d hd).2) (Nat.le_trans (Nat.mul_le_mul_right 201 hn) (by decide))).mono (by decide) (Nat.le_refl _), fun f hf => (h f hf).1⟩
theorem own_word {w : List Nat} (hl : w.length ≤ 21) (hc : ∀ c ∈ w, c ∈ capL) : OwnOk (dW w) ∧ Lite 20 200 (dW w) := ⟨⟨by show w.length < 64; omega, .inl hc⟩, lite_str (by omega) fun c h => cap_lt (hc c h)⟩
theorem own_words {us : List (List Nat)} (h : ∀ w ∈ us, w.length ≤ 21 ∧ ∀ c ∈ w, c ∈ capL) : ∀ d ∈ us.map dW, OwnOk d ∧ Lite 20 200 d := fun d hd => by
  obtain ⟨w, hw, rfl⟩ := List.mem_map.mp hd
  exact own_word (h w hw).1 (h w hw).2
theorem item_flat {d : PyData} (h : Lite 50 20000 d) (n : ∀ ds, d ≠ .list ds) : Lite 50 20000 d ∧ ItemsOk d := ⟨h, by
  cases d with
  | list ds => exact absurd rfl (n ds)
  | _ => exact trivial⟩

/-! ### slices with a step, of lists -/
def pickL {α : Type} (xs : List α) (lo hi st : Option Int) : List α :=
  (sliceRange (sliceBounds lo hi st xs.length).1 (sliceBounds lo hi st xs.length).2.1 (sliceBounds lo hi st xs.length).2.2).filterMap (xs[·]?)
theorem vals_pick {xs : List V} {us : List Value} (r : Vals xs us) : ∀ is : List Nat, Vals (is.filterMap (xs[·]?)) (is.filterMap (us[·]?))
  | [] => .nil
  | i :: is => by
    have ih := vals_pick r is
    cases hx : xs[i]? with
    | none =>
      have hu : us[i]? = none := by
        rw [List.getElem?_eq_none_iff] at hx ⊢
        rw [← r.length]; exact hx
      rw [List.filterMap_cons_none hx, List.filterMap_cons_none hu]
      exact ih
    | some x =>
      obtain ⟨u, hu, ru⟩ := r.get hx
      rw [List.filterMap_cons_some hx, List.filterMap_cons_some hu]
      exact .cons ru ih
section
variable {X : Cx} {e : Expr} {te : TE} {lo hi : Option Expr} {se : Expr} {tl th : TO} {ts : TE} {pos p2 : Pos}
def tSl3 (K : PySem.W.Frag) (te : TE) (tl th : TO) (ts : TE) : TE := fun σ H Q => te σ H fun x H1 => tl σ H1 fun l H2 => th σ H2 fun u H3 => ts σ H3 fun c H4 => ∃ (k : Int) (a : Addr) (xs : List V), c = .int k ∧ k ≠ 0 ∧ x = .ref a ∧ SqL K H4 a xs ∧
  ∀ p, H4 p = none → Q (.ref p) (upd H4 p (.lst (pickL xs l u (some k))))
theorem pe_slice3 (he : PE X e te) (hl : PO X lo tl) (hu : PO X hi th) (hs : PE X se ts) : PE X (.Subscript e (.Slice lo hi (some se) p2) pos) (tSl3 X.K te tl th ts) := by
  constructor
  intro pins s σ H Q I h
  refine Subscript_ (thn (he.run pins s σ H _ I h) fun v s1 ⟨x, H1, I1, r1, q1⟩ => ?_)
  refine wpAny_Slice (thn (hl.run pins s1 σ H1 _ I1 q1) fun vl s2 ⟨l, H2, I2, pl, q2⟩ => thn (hu.run pins s2 σ H2 _ I2 q2) fun vu s3 ⟨u, H3, I3, pu, q3⟩ => ?_)
  rw [evalPart_some]
  refine thn (hs.run pins s3 σ H3 _ I3 q3) fun vs s4 ⟨c, H4, I4, r4, q4⟩ => ?_
  obtain ⟨k, a, xs, rfl, k0, rfl, hx, q⟩ := q4
  obtain ⟨t, rfl⟩ := r4
  have I5 : Inv X pins σ H4 { s4 with heap := s4.heap.push { cls := .type "slice", data := .fields #[vl, vu, .int k t] } } := I4.kept (t' := s4.toks) fun b ob q => Heap.get?_push_of_some _ q
  cases r1
  obtain ⟨its, r, ht, hz⟩ := I5.list hx
  have hlen := r.length
  have hg : wpAny (model X.prog X.w) X.A (getItem (.ref a) (.ref s4.heap.objs.size)) (EP X pins σ Q) X.xe { s4 with heap := s4.heap.push { cls := .type "slice", data := .fields #[vl, vu, .int k t] } } := by
    refine wpAny_getItem_list_slice ht.isList (Heap.IsSliceOf.new ..) pl pu (.int k t) (fun z => k0 (Option.some.inj z)) ?_ (by rw [List.size_toArray]; omega)
    have fresh := I5.hok.fresh (Nat.le_refl _)
    have ok : Vals (pickL xs l u (some k)) ((sliceRange (sliceBounds l u (some k) its.toArray.size).1 (sliceBounds l u (some k) its.toArray.size).2.1 (sliceBounds l u (some k) its.toArray.size).2.2).filterMap (its.toArray[·]?)) := by
      unfold pickL
      rw [List.size_toArray, ← hlen]
      have := vals_pick r (sliceRange (sliceBounds l u (some k) xs.length).1 (sliceBounds l u (some k) xs.length).2.1 (sliceBounds l u (some k) xs.length).2.2)
      simpa using this
    have small : (slicePick its.toArray l u (some k)).toList.length ≤ its.length := by simpa using slicePick_size_le its.toArray l u (some k)
    have hl2 := ok.length
    have hl3 : (slicePick its.toArray l u (some k)).toList.length = ((sliceRange (sliceBounds l u (some k) its.toArray.size).1 (sliceBounds l u (some k) its.toArray.size).2.1 (sliceBounds l u (some k) its.toArray.size).2.2).filterMap (its.toArray[·]?)).length := rfl
    refine ⟨.ref (s4.heap.push { cls := .type "slice", data := .fields #[vl, vu, .int k t] }).objs.size, _, I5.laid (t' := s4.toks) (o := .lst (pickL xs l u (some k))) (fun b ob q => Heap.get?_push_of_some _ q) (Nat.le_refl _) ?_, rfl, q _ fresh⟩
    exact ⟨by omega, _, 0, ok, Heap.get?_push_size _ rfl⟩
  change wpAny (model X.prog X.w) X.A (subscriptTail e (.Slice lo hi (some se) p2) (.ref a) (.ref s4.heap.objs.size)) (EP X pins σ Q) X.xe _
  exact tail_any (ops := [.ref a, .ref s4.heap.objs.size]) ht.isList.typeIs slot_list_getitem.lookup hg (by with_unfolding_all rfl)
end
/-- every other item -/
def evens {α : Type} : List α → List α
  | [] => []
  | [x] => [x]
  | x :: _ :: r => x :: evens r
theorem evens_at {α : Type} : ∀ (l : List α) (j : Nat), (evens l)[j]? = l[2 * j]?
  | [], j => by simp [evens]
  | [x], 0 => rfl
  | [x], j + 1 => by simp [evens]
  | x :: y :: r, 0 => rfl
  | x :: y :: r, j + 1 => by
    rw [show 2 * (j + 1) = 2 * j + 1 + 1 by omega, List.getElem?_cons_succ, List.getElem?_cons_succ, ← evens_at r j]
    rfl
theorem fm_at {α : Type} (xs : List α) (f : Nat → Nat) : ∀ c : Nat, (∀ j, j < c → f j < xs.length) → (((List.range c).map f).filterMap (xs[·]?)).length = c ∧ ∀ j, j < c → (((List.range c).map f).filterMap (xs[·]?))[j]? = xs[f j]?
  | 0, _ => ⟨rfl, fun _ h => absurd h (Nat.not_lt_zero _)⟩
  | c + 1, h => by
    obtain ⟨h1, h2⟩ := fm_at xs f c fun j hj => h j (Nat.lt_succ_of_lt hj)
    have hc : xs[f c]? = some (xs[f c]'(h c (Nat.lt_succ_self c))) := List.getElem?_eq_getElem _
    rw [List.range_succ, List.map_append, List.filterMap_append, List.map_cons, List.map_nil, List.filterMap_cons_some hc, List.filterMap_nil]
    refine ⟨by rw [List.length_append, h1]; rfl, fun j hj => ?_⟩
    by_cases e : j < c
    · rw [List.getElem?_append_left (by rw [h1]; exact e)]
      exact h2 j e
    · have e2 : j = c := by omega
      subst e2
      rw [List.getElem?_append_right (by rw [h1]; exact Nat.le_refl _), h1, Nat.sub_self, hc]
      rfl
theorem pick2 {α : Type} (xs : List α) (k : Nat) : pickL xs (some (k : Int)) none (some 2) = evens (xs.drop k) := by
  have hb : sliceBounds (some (k : Int)) none (some 2) xs.length = (((min k xs.length : Nat) : Int), ((xs.length : Nat) : Int), 2) := by
    unfold sliceBounds
    dsimp only
    rw [if_pos (by decide), if_neg (by omega), if_pos (by decide)]
    congr 1
    show max 0 (min (k : Int) (xs.length : Int)) = _
    omega
  have hr : sliceRange ((min k xs.length : Nat) : Int) ((xs.length : Nat) : Int) 2 = (List.range ((xs.length - min k xs.length + 1) / 2)).map fun j => min k xs.length + 2 * j := by
    unfold sliceRange
    dsimp only
    rw [if_pos (by decide)]
    have e : (if ((min k xs.length : Nat) : Int) < (xs.length : Int) then ((xs.length : Int) - ((min k xs.length : Nat) : Int) + 2 - 1) / 2 else 0).toNat = (xs.length - min k xs.length + 1) / 2 := by
      split <;> omega
    rw [e]
    refine List.map_congr_left fun j _ => ?_
    omega
  unfold pickL
  rw [hb]
  dsimp only
  rw [hr]
  obtain ⟨h1, h2⟩ := fm_at xs (fun j => min k xs.length + 2 * j) ((xs.length - min k xs.length + 1) / 2) fun j hj => by
    show min k xs.length + 2 * j < xs.length
    omega
  refine List.ext_getElem? fun j => ?_
  rw [evens_at, List.getElem?_drop]
  by_cases hj : j < (xs.length - min k xs.length + 1) / 2
  · rw [h2 j hj]
    congr 1
    omega
  · rw [List.getElem?_eq_none (by rw [h1]; omega), List.getElem?_eq_none (by omega)]
theorem pick_rev {α : Type} (xs : List α) : pickL xs none none (some (-1)) = xs.reverse := by
  have hb : sliceBounds none none (some (-1)) xs.length = ((xs.length : Int) - 1, -1, -1) := by
    unfold sliceBounds
    simp
  unfold pickL
  rw [hb]
  have e1 : sliceRange ((xs.length : Int) - 1) (-1) (-1) = (List.range xs.length).map fun j => xs.length - 1 - j := by
    unfold sliceRange
    simp only [gt_iff_lt, show ¬ ((0 : Int) < -1) by decide, if_false]
    have e2 : (if -1 < (xs.length : Int) - 1 then ((xs.length : Int) - 1 - -1 - -1 - 1) / (- -1) else 0).toNat = xs.length := by
      split
      · rw [show (- -1 : Int) = 1 by rfl, Int.ediv_one]
        omega
      · omega
    rw [e2]
    refine List.map_congr_left fun j hj => ?_
    have := List.mem_range.mp hj
    omega
  dsimp only
  rw [e1, rev_fm xs xs.length (Nat.le_refl _), List.take_of_length_le (by rw [List.length_reverse]; exact Nat.le_refl _)]

/-! ### closed families -/
def restr (l m : List Nat) : List Nat := l.filter fun c => decide (c ∈ m)
theorem PatW.restr {l : List Nat} (h : PatW l) (m : List Nat) : PatW (restr l m) := by
  refine ⟨Nat.le_trans (List.length_filter_le _ _) h.hi, fun c hc => h.cap c (List.mem_filter.mp hc).1, Nat.le_trans (nodup_len (dist_nodup _) fun c hc => mem_dist.mpr ?_) h.few⟩
  exact (List.mem_filter.mp (mem_dist.mp hc)).1
theorem restr_abc {l m : List Nat} (hc : ∀ c ∈ l, c ∈ capL) (hi : Inc m) (hm : ∀ c ∈ m, c ∈ abc l) : abc (restr l m) = m := by
  refine lt_uniq (abc_lt _) hi fun c => ?_
  unfold restr
  rw [mem_abc fun x hx => hc x (List.mem_filter.mp hx).1, List.mem_filter, decide_eq_true_eq]
  exact ⟨fun h => h.2, fun h => ⟨(mem_abc hc).mp (hm c h), h⟩⟩
/-- the free sets of a pattern's letters, and what each leaves -/
def FreeIn (l S F : List Nat) : Prop := F ≠ [] ∧ Inc F ∧ (∀ c ∈ F, c ∈ S) ∧ Free (numb S (pairsL (restr l S))) F
def ClosedP (l : List Nat) (ws : List (List Nat)) : Prop := ws.Nodup ∧ abc l ∈ ws ∧ ∀ S ∈ ws, ∀ F, FreeIn l S F → outL S F ∈ ws
open Classical in
noncomputable def closedGo (l : List Nat) (ds : List PyData) : Bool := ds.all (lsetD l) && decide (ClosedP l (ds.map strOf))
noncomputable def closedD (l : List Nat) : PyData → Bool
  | .list ds => closedGo l ds
  | _ => false
open Classical in
theorem closed_no {l : List Nat} {ds : List PyData} (h : (∀ d ∈ ds, lsetD l d = true) → ¬ ClosedP l (ds.map strOf)) : closedGo l ds = false := by
  unfold closedGo
  rw [Bool.and_eq_false_iff]
  cases e : ds.all (lsetD l) with
  | false => exact .inl rfl
  | true => exact .inr (decide_eq_false (h (List.all_eq_true.mp e)))
open Classical in
theorem closed_yes {l : List Nat} {ds : List PyData} (h : ∀ d ∈ ds, lsetD l d = true) (k : ClosedP l (ds.map strOf)) : closedGo l ds = true := by
  unfold closedGo
  rw [List.all_eq_true.mpr h, Bool.true_and]
  exact decide_eq_true k
/-! a dict whose keys are words -/
def kvW (ws : List (List Nat)) : List (Key × V) := ws.map fun m => (.inr (S m), .bl true)
theorem kvW_none {ws : List (List Nat)} {m : List Nat} (h : m ∉ ws) : valV (kvW ws) (.inr (S m)) = none :=
  valV_none (fun m => (Sum.inr (S m) : Key)) (fun _ => V.bl true) ws _ fun a ha e => h (by rw [← SX.S_inj (Sum.inr.inj e)]; exact ha)
theorem kvW_has (ws : List (List Nat)) (m : List Nat) : (valV (kvW ws) (.inr (S m))).isSome = decide (m ∈ ws) := by
  by_cases h : m ∈ ws
  · rw [decide_eq_true h]
    have q := valV_some (fun m => (Sum.inr (S m) : Key)) (fun _ => V.bl true) ws m (fun x _ y _ e => SX.S_inj (Sum.inr.inj e)) h
    show (valV (ws.map fun m => ((Sum.inr (S m) : Key), V.bl true)) (Sum.inr (S m))).isSome = true
    rw [q]
    rfl
  · rw [decide_eq_false h, kvW_none h]
    rfl
theorem kvW_put {ws : List (List Nat)} {m : List Nat} (h : m ∉ ws) : putK (kvW ws) (.inr (S m)) (.bl true) = kvW (ws ++ [m]) := by
  rw [putK_new _ (kvW_none h)]
  unfold kvW
  rw [List.map_append]
  rfl
def FamOk : PyData → Prop
  | .list ds => ds.length ≤ 400 ∧ ∀ f ∈ ds, OwnOk f
  | _ => True
theorem nodup_at {α : Type} {ws : List α} {i : Nat} {x : α} (h : ws[i]? = some x) (nd : ws.Nodup) : x ∉ ws.take i := fun hx => by
  obtain ⟨hi, e⟩ := List.getElem?_eq_some_iff.mp h
  have q := nd
  rw [← List.take_append_drop i ws, List.nodup_append] at q
  exact q.2.2 x hx x (by rw [List.drop_eq_getElem_cons hi, e]; exact List.mem_cons_self) rfl
theorem take_snoc {α : Type} {ws : List α} {i : Nat} {x : α} (h : ws[i]? = some x) : ws.take (i + 1) = ws.take i ++ [x] := by rw [List.take_add_one, h]; rfl
theorem lset_word {l : List Nat} {f : PyData} (h : lsetD l f = true) : f = .str (S (strOf f)) := by
  cases f with
  | str z => rfl
  | _ => cases h
theorem all_words {l : List Nat} {ds : List PyData} (h : ∀ d ∈ ds, lsetD l d = true) : ds = (ds.map strOf).map dW := by
  rw [List.map_map]
  exact (List.map_id ds).symm.trans (List.map_congr_left fun d hd => lset_word (h d hd))
theorem words_dp {K : PySem.W.Frag} {H : Hp} : ∀ {ys : List V} {ws : List (List Nat)}, DpAll K H ys (ws.map dW) → ys = ws.map vW
  | [], [], _ => rfl
  | [], _ :: _, h => by cases h
  | _ :: _, [], h => by cases h
  | y :: ys, w :: ws, h => by
    cases h with
    | cons h1 h2 => rw [words_dp h2]; cases h1; rfl
theorem good_fam {ds : List PyData} (h : ∀ d ∈ ds, OwnOk d ∧ Lite 20 60 d) (hn : ds.length ≤ 300) : Lite 50 20000 (.list ds) ∧ FamOk (.list ds) :=
  ⟨(lite_lst (D := 20) (k := 60) (m := 20000) (fun d hd => (h d hd).2) (Nat.le_trans (Nat.mul_le_mul_right 61 hn) (by decide))).mono (by decide) (Nat.le_refl _), by omega, fun f hf => (h f hf).1⟩
theorem own_wordF {w : List Nat} (hl : w.length ≤ 21) (hc : ∀ c ∈ w, c ∈ capL) : OwnOk (dW w) ∧ Lite 20 60 (dW w) := ⟨⟨by show w.length < 64; omega, .inl hc⟩, lite_str (by omega) fun c h => cap_lt (hc c h)⟩
theorem own_wordsF {us : List (List Nat)} (h : ∀ w ∈ us, w.length ≤ 21 ∧ ∀ c ∈ w, c ∈ capL) : ∀ d ∈ us.map dW, OwnOk d ∧ Lite 20 60 d := fun d hd => by
  obtain ⟨w, hw, rfl⟩ := List.mem_map.mp hd
  exact own_wordF (h w hw).1 (h w hw).2

/-! ### rules and what they make -/
def imgL (W : List (List Nat)) (l : List Nat) : List Nat := l.flatMap fun c => W[c - 97]?.getD []
/-- the word that a rule makes of a, letter for letter -/
def RuleW (W : List (List Nat)) (s : Nat) : Prop := 2 ≤ W.length ∧ W.length ≤ 4 ∧ 2 ≤ s ∧ s ≤ 4 ∧ (∀ w ∈ W, w.length = s ∧ ∀ c ∈ w, 97 ≤ c ∧ c < 97 + W.length)
def growN (W : List (List Nat)) : Nat → List Nat
  | 0 => [97]
  | n + 1 => imgL W (growN W n)
theorem img_in {W : List (List Nat)} {s : Nat} (h : RuleW W s) {l : List Nat} (hl : ∀ c ∈ l, 97 ≤ c ∧ c < 97 + W.length) : (imgL W l).length = l.length * s ∧ ∀ c ∈ imgL W l, 97 ≤ c ∧ c < 97 + W.length := by
  have one : ∀ c ∈ l, ∃ w ∈ W, W[c - 97]?.getD [] = w := fun c hc => by
    have hlt : c - 97 < W.length := by have := hl c hc; omega
    exact ⟨W[c - 97], List.getElem_mem hlt, by rw [List.getElem?_eq_getElem hlt]; rfl⟩
  constructor
  · induction l with
    | nil => rw [List.length_nil, Nat.zero_mul]; rfl
    | cons c r ih =>
      obtain ⟨w, hw, e⟩ := one c List.mem_cons_self
      have ih := ih (fun x hx => hl x (List.mem_cons_of_mem _ hx)) (fun x hx => one x (List.mem_cons_of_mem _ hx))
      show ((W[c - 97]?.getD []) ++ imgL W r).length = _
      rw [List.length_append, ih, e, (h.2.2.2.2 w hw).1, List.length_cons, Nat.succ_mul, Nat.add_comm]
  · intro x hx
    obtain ⟨c, hc, hxw⟩ := List.mem_flatMap.mp hx
    obtain ⟨w, hw, e⟩ := one c hc
    rw [e] at hxw
    exact (h.2.2.2.2 w hw).2 x hxw
theorem grow_ok {W : List (List Nat)} {s : Nat} (h : RuleW W s) : ∀ n, (growN W n).length = s ^ n ∧ ∀ c ∈ growN W n, 97 ≤ c ∧ c < 97 + W.length
  | 0 => ⟨rfl, fun c hc => by rw [List.mem_singleton.mp hc]; have := h.1; omega⟩
  | n + 1 => by
    obtain ⟨a, b⟩ := grow_ok h n
    obtain ⟨c, d⟩ := img_in h b
    exact ⟨by rw [show growN W (n + 1) = imgL W (growN W n) from rfl, c, a, Nat.pow_succ], d⟩
/-! the letter at a place: the place's figures, the last one first -/
def digsF (s : Nat) : Nat → Nat → List Nat
  | 0, _ => []
  | k + 1, n => if n = 0 then [] else (n % s) :: digsF s k (n / s)
theorem digs_zero (s k : Nat) : digsF s k 0 = [] := by cases k <;> rfl
theorem digs_lt {s : Nat} (hs : 0 < s) : ∀ k n, ∀ d ∈ digsF s k n, d < s
  | 0, _, d, h => nomatch h
  | k + 1, n, d, h => by
    unfold digsF at h
    by_cases e : n = 0
    · rw [if_pos e] at h; cases h
    · rw [if_neg e] at h
      rcases List.mem_cons.mp h with rfl | h
      · exact Nat.mod_lt _ hs
      · exact digs_lt hs k _ d h
theorem digs_len (s : Nat) : ∀ k n, (digsF s k n).length ≤ k
  | 0, _ => Nat.le_refl _
  | k + 1, n => by
    unfold digsF
    by_cases e : n = 0
    · rw [if_pos e]; exact Nat.zero_le _
    · rw [if_neg e, List.length_cons]; exact Nat.succ_le_succ (digs_len s k _)
def letS (W : List (List Nat)) (d c : Nat) : Nat := (W[c - 97]?.getD [])[d]?.getD 0
def letL (W : List (List Nat)) (ds : List Nat) : Nat := ds.foldr (letS W) 97
theorem let_in {W : List (List Nat)} {s : Nat} (h : RuleW W s) {c d : Nat} (hc : 97 ≤ c ∧ c < 97 + W.length) (hd : d < s) : ∃ w, W[c - 97]? = some w ∧ w ∈ W ∧ w[d]? = some (letS W d c) ∧ 97 ≤ letS W d c ∧ letS W d c < 97 + W.length := by
  have hlt : c - 97 < W.length := by omega
  have hw := h.2.2.2.2 _ (List.getElem_mem hlt)
  have hdl : d < (W[c - 97]).length := by omega
  have e : letS W d c = (W[c - 97])[d] := by
    unfold letS
    rw [List.getElem?_eq_getElem hlt, Option.getD_some, List.getElem?_eq_getElem hdl]
    rfl
  refine ⟨_, List.getElem?_eq_getElem hlt, List.getElem_mem hlt, by rw [e]; exact List.getElem?_eq_getElem hdl, ?_⟩
  rw [e]
  exact hw.2 _ (List.getElem_mem hdl)
theorem letL_in {W : List (List Nat)} {s : Nat} (h : RuleW W s) : ∀ ds : List Nat, (∀ d ∈ ds, d < s) → 97 ≤ letL W ds ∧ letL W ds < 97 + W.length
  | [], _ => by have := h.1; exact ⟨Nat.le_refl _, by show 97 < _; omega⟩
  | d :: r, hd => by
    obtain ⟨_, _, _, _, k⟩ := let_in h (letL_in h r fun x hx => hd x (List.mem_cons_of_mem _ hx)) (hd d List.mem_cons_self)
    exact k
theorem img_one (W : List (List Nat)) (c : Nat) : imgL W [c] = W[c - 97]?.getD [] := by
  unfold imgL
  rw [List.flatMap_cons, List.flatMap_nil, List.append_nil]
/-! what is a rule -/
def RuleP (ws : List (List Nat)) : Prop := 2 ≤ ws.length ∧ ws.length ≤ 4 ∧ (∃ s, 2 ≤ s ∧ s ≤ 4 ∧ ∀ w ∈ ws, w.length = s ∧ ∀ c ∈ w, 97 ≤ c ∧ c < 97 + ws.length) ∧ ws.Nodup ∧ ∃ r, ws[0]? = some (97 :: r)
open Classical in
noncomputable def ruleGo (ds : List PyData) : Bool := ds.all dStr && decide (RuleP (ds.map strOf))
noncomputable def ruleD : PyData → Bool
  | .tuple ds => ruleGo ds
  | _ => false
open Classical in
theorem rule_no {ds : List PyData} (h : (∀ d ∈ ds, dStr d = true) → ¬ RuleP (ds.map strOf)) : ruleGo ds = false := by
  unfold ruleGo
  rw [Bool.and_eq_false_iff]
  cases e : ds.all dStr with
  | false => exact .inl rfl
  | true => exact .inr (decide_eq_false (h (List.all_eq_true.mp e)))
open Classical in
theorem rule_yes {ds : List PyData} (h : ∀ d ∈ ds, dStr d = true) (k : RuleP (ds.map strOf)) : ruleGo ds = true := by
  unfold ruleGo
  rw [List.all_eq_true.mpr h, Bool.true_and]
  exact decide_eq_true k
theorem all_strs {ds : List PyData} (h : ∀ d ∈ ds, dStr d = true) : ds = (ds.map strOf).map dW := by
  rw [List.map_map]
  refine (List.map_id ds).symm.trans (List.map_congr_left fun d hd => ?_)
  cases d with
  | str z => rfl
  | _ => exact absurd (h _ hd) (by simp [dStr])
theorem small_take {n : Nat} (hn : n ≤ 4) (c : Nat) : c ∈ smallL.take n ↔ 97 ≤ c ∧ c < 97 + n := by
  have k1 : ∀ n, n < 5 → ∀ c ∈ smallL.take n, 97 ≤ c ∧ c < 97 + n := by decide
  have k2 : ∀ n, n < 5 → ∀ k, k < n → (97 + k) ∈ smallL.take n := by decide
  constructor
  · exact k1 n (by omega) c
  · intro h
    have := k2 n (by omega) (c - 97) (by omega)
    rwa [show 97 + (c - 97) = c by omega] at this
/-! lists of numbers as data -/
def intsD (l : List Nat) : List PyData := l.map fun n : Nat => PyData.int (Int.ofNat n)
theorem ints_all {K : PySem.W.Frag} (Hx : Hp) (l : List Nat) : DpAll K Hx (l.map vN) (intsD l) := by
  induction l with
  | nil => exact .nil
  | cons c r ih => exact .cons (.int _) ih
theorem ints_eqvA : ∀ a b : List Nat, PyData.eqvAll (intsD a) (intsD b) = decide (a = b)
  | [], [] => by simp [intsD, PyData.eqvAll]
  | [], _ :: _ => by simp [intsD, PyData.eqvAll]
  | _ :: _, [] => by simp [intsD, PyData.eqvAll]
  | c :: r, d :: t => by
    have ih := ints_eqvA r t
    show PyData.eqvAll (.int (c : Int) :: intsD r) (.int (d : Int) :: intsD t) = _
    simp only [PyData.eqvAll, PyData.eqv, ih]
    by_cases h : c = d
    · subst h
      simp
    · have hn : ¬ (c : Int) = (d : Int) := fun e => h (by omega)
      rw [show ((c : Int) == (d : Int)) = false from beq_eq_false_iff_ne.mpr hn, Bool.false_and]
      exact (decide_eq_false fun e => h (by rw [List.cons.injEq] at e; exact e.1)).symm
theorem ints_eqv (a b : List Nat) : PyData.eqv (.list (intsD a)) (.list (intsD b)) = decide (a = b) := ints_eqvA a b
theorem ints_shaped (l : List Nat) : SeqAt.shaped (.list (intsD l)) = true := by
  have h1 : PyData.canLayAll0 (intsD l) = true ∧ PyData.depthAll (intsD l) = 0 := by
    induction l with
    | nil => exact ⟨by simp [intsD, PyData.canLayAll0], by simp [intsD, PyData.depthAll]⟩
    | cons c r ih =>
      obtain ⟨a, b⟩ := ih
      have e : intsD (c :: r) = .int (c : Int) :: intsD r := rfl
      rw [e]
      exact ⟨by simp [PyData.canLayAll0, PyData.canLay0, a], by simp [PyData.depthAll, PyData.depth, b]⟩
  show (PyData.canLay0 (.list (intsD l)) && decide (PyData.depth (.list (intsD l)) ≤ 64)) = true
  rw [Bool.and_eq_true]
  exact ⟨by simp only [PyData.canLay0]; exact h1.1, decide_eq_true (by simp only [PyData.depth]; omega)⟩
theorem all_same {n : Nat} : ∀ {l : List Nat}, l = List.replicate l.length n ↔ ∀ x ∈ l, x = n := fun {l} => by
  rw [List.eq_replicate_iff]
  exact ⟨fun h => h.2, fun h => ⟨rfl, h⟩⟩
theorem kdist_all (ws : List (List Nat)) : (kdist (ws.map fun m => (Sum.inr (S m) : Key))).length = ws.length ↔ ws.Nodup := by
  have inj : ∀ {ws : List (List Nat)}, (ws.map fun m => (Sum.inr (S m) : Key)).Nodup ↔ ws.Nodup := fun {ws} => by
    show List.Pairwise _ _ ↔ List.Pairwise _ _
    rw [List.pairwise_map]
    exact List.Pairwise.iff fun {a b} => ⟨fun h e => h (by rw [e]), fun h e => h (SX.S_inj (Sum.inr.inj e))⟩
  rw [← inj]
  have hl : (ws.map fun m => (Sum.inr (S m) : Key)).length = ws.length := List.length_map ..
  rw [← hl]
  generalize (ws.map fun m => (Sum.inr (S m) : Key)) = ks
  constructor
  · intro h
    exact (perm_nodup (kdist_nodup ks) (fun x hx => mem_kdist.mp hx) (by omega)).nodup_iff.mpr (kdist_nodup ks)
  · intro nd
    have h1 := nodup_len nd (m := kdist ks) fun x hx => mem_kdist.mpr hx
    have h2 := kdist_len ks
    omega
theorem RuleP.w {W : List (List Nat)} (h : RuleP W) : ∃ s, RuleW W s := by
  obtain ⟨h2, h4, ⟨s, s2, s4, hs⟩, _⟩ := h
  exact ⟨s, h2, h4, s2, s4, hs⟩

/-! ### a tuple from right to left -/
section
variable {prog : Program} {w : World} {A : Around} {E : Value → Shared → Prop} {s : Shared}
theorem sliceApplied_rev {sl : Addr} {t : Tok} {n : Nat} {Q : Int × Int × Nat → Shared → Prop} (hs : s.heap.IsSliceOf sl .none .none (.int (-1) t))
    (h : Q ((n : Int) - 1, -1, n) s) : wpAny (model prog w) A (Builtin.Slice.sliceApplied (.ref sl) (pure (n : Int))) Q E s := by
  obtain ⟨os, hos, hcs, hds⟩ := id hs
  unfold Builtin.Slice.sliceApplied Builtin.Slice.sliceFields
  refine wpAny_bind (wpAny_bind (wpAny_field hos hds (x := .none) rfl (wpAny_bind (wpAny_field hos hds (x := .none) rfl (wpAny_bind (wpAny_field hos hds (x := .int (-1) t) rfl (wpAny_pure ?_)))))))
  refine wpAny_bind (HT.slicePart_ (IsPart.int (-1) t) ?_)
  show wpAny _ _ (if ((-1 : Int) == 0) = true then _ else _) _ _ s
  rw [if_neg (by decide)]
  refine wpAny_bind (HT.slicePart_ IsPart.none (wpAny_bind (HT.slicePart_ IsPart.none (wpAny_bind (wpAny_pure ?_)))))
  show wpAny _ _ (match Builtin.Slice.sliceAdjust none none (-1) (n : Int) with | (lo, hi) => pure (lo, (-1 : Int), Builtin.Slice.slicePlaces lo hi (-1))) _ _ s
  have e1 : Builtin.Slice.sliceAdjust none none (-1) (n : Int) = ((n : Int) - 1, -1) := by
    unfold Builtin.Slice.sliceAdjust
    simp
  rw [e1]
  have e2 : Builtin.Slice.slicePlaces ((n : Int) - 1) (-1) (-1) = n := by
    unfold Builtin.Slice.slicePlaces
    simp only [gt_iff_lt, show ¬ ((0 : Int) < -1) by decide, if_false]
    split
    · rw [show (- -1 : Int) = 1 by rfl, Int.ediv_one]
      omega
    · omega
  show wpAny _ _ (pure ((n : Int) - 1, (-1 : Int), Builtin.Slice.slicePlaces ((n : Int) - 1) (-1) (-1))) _ _ s
  rw [e2]
  exact wpAny_pure h
theorem tup_pick_rev (xs : Array Value) : ((List.range xs.size).filterMap fun (m : Nat) => xs[(((xs.size : Nat) : Int) - 1 + (m : Int) * -1).toNat]?).toArray = xs.toList.reverse.toArray := by
  have e := rev_fm xs.toList xs.toList.length (Nat.le_refl _)
  rw [List.take_of_length_le (by rw [List.length_reverse]; exact Nat.le_refl _), List.filterMap_map] at e
  rw [← e, Array.length_toList]
  congr 1
  have cg : ∀ (l : List Nat) (f g : Nat → Option Value), (∀ m ∈ l, f m = g m) → l.filterMap f = l.filterMap g := fun l f g h => by
    induction l with
    | nil => rfl
    | cons a r ih => rw [List.filterMap_cons, List.filterMap_cons, h a List.mem_cons_self, ih fun m hm => h m (List.mem_cons_of_mem _ hm)]
  refine cg _ _ _ fun m hm => ?_
  have := List.mem_range.mp hm
  show xs[(((xs.size : Nat) : Int) - 1 + (m : Int) * -1).toNat]? = xs.toList[xs.size - 1 - m]?
  rw [show (((xs.size : Nat) : Int) - 1 + (m : Int) * -1).toNat = xs.size - 1 - m by omega]
  simp
theorem getItem_tuple_rev {t sl : Addr} {items : Array Value} {u : Tok} {Q : Value → Shared → Prop} (ht : IsTup s.heap t items) (hs : s.heap.IsSliceOf sl .none .none (.int (-1) u))
    (h : Q (.ref s.heap.objs.size) { s with heap := s.heap.push { cls := .type "tuple", data := .seq items.toList.reverse.toArray } })
    (hsz : items.size ≤ sizeLine) : wpAny (model prog w) A (getItem (.ref t) (.ref sl)) Q E s := by
  have htake : sizeOk (.seq items.toList.reverse.toArray) := by
    show items.toList.reverse.toArray.size ≤ sizeLine
    rw [List.size_toArray, List.length_reverse, Array.length_toList]
    exact hsz
  obtain ⟨os, hos, hcs, hds⟩ := id hs
  have hTs : s.TypeIs (.ref sl) "slice" := ⟨os, hos, hcs⟩
  unfold getItem
  try with_reducible refine wpAny_holding ?_
  first | refine wpAny_bind (wpAny_pure ?_) | skip
  refine wpAny_bind (wpAny_sequenceKey ht.typeIs (by decide) ?_)
  refine wpAny_bind (wpAny_callSpecial?_slot (name := Str.ofString "__getitem__") ht.typeIs PyProof.Rows.slot_tuple_getitem
    (wpAny_call_entry PyProof.Rows.slot_tuple_getitem ht.typeIs entry_tuple_getitem ?_ (args_tuple_getitem _ _)))
  show wpAny _ _ (Builtin.Tuple.tupleItemsOf (.ref t) >>= _) _ _ s
  refine wpAny_bind (tupleItemsOf_ ht ?_)
  refine wpAny_bind (wpAny_typeOf hTs ?_)
  rw [if_pos (by decide)]
  refine wpAny_bind (sliceApplied_rev hs ?_)
  have hno : ¬ (((((items.size : Nat) : Int) - 1) == 0 && (-1 : Int) == 1 && items.size == items.size) = true) := by
    intro q
    rw [Bool.and_eq_true, Bool.and_eq_true] at q
    exact absurd q.1.2 (by decide)
  show wpAny _ _ (if ((((items.size : Nat) : Int) - 1) == 0 && (-1 : Int) == 1 && items.size == items.size) = true then _ else _) _ _ s
  rw [if_neg hno, tup_pick_rev]
  first
    | exact wpAny_bind (m := Builtin.Tuple.tupleExact _) (wpAny_newObj_type (wpAny_pure ⟨_, rfl, wpAny_pure h⟩) htake)
    | exact wpAny_bind (m := Builtin.Tuple.tupleExact _) (wpAny_newObj_type (wpAny_bind (wpAny_pure (wpAny_pure ⟨_, rfl, wpAny_pure h⟩))) htake)
    | exact wpAny_bind (wpAny_bind (m := Builtin.Tuple.tupleExact _) (wpAny_newObj_type (wpAny_pure (wpAny_pure ⟨_, rfl, wpAny_pure h⟩)) htake))
    | exact wpAny_bind (wpAny_bind (m := Builtin.Tuple.tupleExact _) (wpAny_newObj_type (wpAny_pure ⟨_, rfl, wpAny_pure h⟩) htake))
end
section
variable {X : Cx} {e se : Expr} {te ts : TE} {pos p2 : Pos}
def tRevT (K : PySem.W.Frag) (te ts : TE) : TE := fun σ H Q => te σ H fun x H1 => ts σ H1 fun c H2 => ∃ (a : Addr) (xs : List V), x = .ref a ∧ c = .int (-1) ∧ SqT K H2 a xs ∧ ∀ p, H2 p = none → Q (.ref p) (upd H2 p (.tup xs.reverse))
theorem vals_reverse {xs : List V} {us : List Value} (r : Vals xs us) : Vals xs.reverse us.reverse := by
  induction r with
  | nil => exact .nil
  | cons r1 r2 ih => rw [List.reverse_cons, List.reverse_cons]; exact ih.append (.cons r1 .nil)
theorem pe_revT (he : PE X e te) (hs : PE X se ts) : PE X (.Subscript e (.Slice none none (some se) p2) pos) (tRevT X.K te ts) := by
  constructor
  intro pins s σ H Q I h
  refine Subscript_ (thn (he.run pins s σ H _ I h) fun v s1 ⟨x, H1, I1, r1, q1⟩ => ?_)
  refine wpAny_Slice ?_
  rw [evalPart_none]
  refine wpAny_pure (wpAny_pure ?_)
  rw [evalPart_some]
  refine thn (hs.run pins s1 σ H1 _ I1 q1) fun vs s4 ⟨c, H4, I4, r4, q4⟩ => ?_
  obtain ⟨a, xs, rfl, rfl, hx, q⟩ := q4
  obtain ⟨t, rfl⟩ := r4
  have I5 : Inv X pins σ H4 { s4 with heap := s4.heap.push { cls := .type "slice", data := .fields #[.none, .none, .int (-1) t] } } := I4.kept (t' := s4.toks) fun b ob q => Heap.get?_push_of_some _ q
  cases r1
  obtain ⟨its, r, ht, hz⟩ := I5.tuple hx
  have hlen := r.length
  have hg : wpAny (model X.prog X.w) X.A (getItem (.ref a) (.ref s4.heap.objs.size)) (EP X pins σ Q) X.xe { s4 with heap := s4.heap.push { cls := .type "slice", data := .fields #[.none, .none, .int (-1) t] } } := by
    refine getItem_tuple_rev ht (Heap.IsSliceOf.new ..) ?_ (by rw [List.size_toArray]; omega)
    have fresh := I5.hok.fresh (Nat.le_refl _)
    have ok : Vals xs.reverse its.toArray.toList.reverse := by simpa using vals_reverse r
    refine ⟨.ref (s4.heap.push { cls := .type "slice", data := .fields #[.none, .none, .int (-1) t] }).objs.size, _, I5.laid (t' := s4.toks) (o := .tup xs.reverse) (fun b ob q => Heap.get?_push_of_some _ q) (Nat.le_refl _) ?_, rfl, q _ fresh⟩
    exact ⟨by rw [List.length_reverse]; omega, _, ok, IsTup.new _ _⟩
  change wpAny (model X.prog X.w) X.A (subscriptTail e (.Slice none none (some se) p2) (.ref a) (.ref s4.heap.objs.size)) (EP X pins σ Q) X.xe _
  exact tail_any (ops := [.ref a, .ref s4.heap.objs.size]) ht.typeIs PyProof.Rows.slot_tuple_getitem.lookup hg (by with_unfolding_all rfl)
end
def rIntI : List V → Hp → VK → Prop := fun xs H Q => ∃ i, xs = [.int i] ∧ Q (.int i) H
theorem call_intI {X : Cx} : CallR X (.type "int") rIntI := fun pins s σ H xs us Q I r h => call_int1 pins s σ H xs us Q I r (.inl h)
theorem op_catAK {X : Cx} {K : PySem.W.Frag} (h : X.K = K := by rfl) : OpR X (binaryOp .Add) (rCatA K) := h ▸ op_catA

/-! ### the law's own rules -/
/-- the word of a number, its last letter first -/
def wordA (m n : Nat) : Nat → List Nat
  | 0 => []
  | j + 1 => (97 + n / m ^ j % m) :: wordA m n j
theorem wordA_len (m n : Nat) : ∀ j, (wordA m n j).length = j
  | 0 => rfl
  | j + 1 => by rw [wordA, List.length_cons, wordA_len m n j]
theorem wordA_in {m : Nat} (hm : 0 < m) (n : Nat) : ∀ j, ∀ c ∈ wordA m n j, 97 ≤ c ∧ c < 97 + m
  | 0, c, h => nomatch h
  | j + 1, c, h => by
    rw [wordA] at h
    rcases List.mem_cons.mp h with rfl | h
    · have := Nat.mod_lt (n / m ^ j) hm
      omega
    · exact wordA_in hm n j c h
theorem wordA_inj {m : Nat} (a b : Nat) : ∀ j, wordA m a j = wordA m b j → a % m ^ j = b % m ^ j
  | 0, _ => by rw [Nat.pow_zero, Nat.mod_one, Nat.mod_one]
  | j + 1, h => by
    rw [wordA, wordA, List.cons.injEq] at h
    have ih := wordA_inj a b j h.2
    have h1 : a / m ^ j % m = b / m ^ j % m := by have := h.1; omega
    rw [Nat.mod_pow_succ, Nat.mod_pow_succ, ih, h1]
/-- among four numbers one behind the other one gives a word that is not among three -/
theorem mod_near {M n i j : Nat} (hM : 4 ≤ M) (hi : i < 4) (hj : j < 4) (h : (n + i) % M = (n + j) % M) : i = j := by
  have key : ∀ i j, i ≤ j → j < 4 → (n + i) % M = (n + j) % M → i = j := fun i j hij hj h => by
    have hd : (n + j - (n + i)) % M = 0 := Nat.sub_mod_eq_zero_of_mod_eq h.symm
    rw [show n + j - (n + i) = j - i by omega, Nat.mod_eq_of_lt (by omega)] at hd
    omega
  rcases Nat.le_total i j with q | q
  · exact key i j q hj h
  · exact (key j i q hi h.symm).symm
theorem word_free {m s n : Nat} (hM : 4 ≤ m ^ s) {ws : List (List Nat)} (hl : ws.length ≤ 3) : ∃ j, j ≤ 3 ∧ wordA m ((n + j) % m ^ s) s ∉ ws := by
  refine Classical.byContradiction fun hno => ?_
  have hin : ∀ j, j ≤ 3 → wordA m ((n + j) % m ^ s) s ∈ ws := fun j hj => Classical.byContradiction fun z => hno ⟨j, hj, z⟩
  have hnd : ([0, 1, 2, 3].map fun j => wordA m ((n + j) % m ^ s) s).Nodup := by
    have inj : ∀ i j, i < 4 → j < 4 → wordA m ((n + i) % m ^ s) s = wordA m ((n + j) % m ^ s) s → i = j := fun i j hi hj e => by
      have := wordA_inj _ _ s e
      rw [Nat.mod_mod, Nat.mod_mod] at this
      exact mod_near hM hi hj this
    refine List.nodup_cons.mpr ⟨fun h => ?_, List.nodup_cons.mpr ⟨fun h => ?_, List.nodup_cons.mpr ⟨fun h => ?_, List.nodup_cons.mpr ⟨fun h => (nomatch h), List.nodup_nil⟩⟩⟩⟩
    all_goals
      simp only [List.map_cons, List.map_nil, List.mem_cons, List.not_mem_nil, or_false] at h
    · rcases h with h | h | h
      · exact absurd (inj 0 1 (by decide) (by decide) h) (by decide)
      · exact absurd (inj 0 2 (by decide) (by decide) h) (by decide)
      · exact absurd (inj 0 3 (by decide) (by decide) h) (by decide)
    · rcases h with h | h
      · exact absurd (inj 1 2 (by decide) (by decide) h) (by decide)
      · exact absurd (inj 1 3 (by decide) (by decide) h) (by decide)
    · exact absurd (inj 2 3 (by decide) (by decide) h) (by decide)
  have := nodup_len hnd (m := ws) fun x hx => by
    obtain ⟨j, hj, rfl⟩ := List.mem_map.mp hx
    refine hin j ?_
    simp only [List.mem_cons, List.not_mem_nil, or_false] at hj
    omega
  simp only [List.length_map, List.length_cons, List.length_nil] at this
  omega
/-- a rule of the law's own list -/
def ruleB (W : List (List Nat)) : Bool :=
  decide (2 ≤ W.length) && decide (W.length ≤ 4) && decide (2 ≤ (W[0]?.getD []).length) && decide ((W[0]?.getD []).length ≤ 4) && W.all (fun w => w.length == (W[0]?.getD []).length && w.all fun c => decide (97 ≤ c) && decide (c < 97 + W.length)) && decide W.Nodup && decide ((W[0]?.getD [])[0]? = some 97)
theorem ruleB_ok {W : List (List Nat)} (h : ruleB W = true) : RuleP W := by
  unfold ruleB at h
  simp only [Bool.and_eq_true, decide_eq_true_eq, List.all_eq_true, beq_iff_eq] at h
  obtain ⟨⟨⟨⟨⟨⟨h1, h2⟩, h3⟩, h4⟩, h5⟩, h6⟩, h7⟩ := h
  refine ⟨h1, h2, ⟨_, h3, h4, h5⟩, h6, ?_⟩
  cases W with
  | nil => exact absurd h1 (by decide)
  | cons w r =>
    cases w with
    | nil => exact absurd (show 2 ≤ 0 from h3) (by decide)
    | cons c t =>
      have h7' : some c = some 97 := h7
      exact ⟨t, by rw [List.getElem?_cons_zero, Option.some.inj h7']⟩
/-- the figures of n * s + k -/
theorem digs_next {s n k : Nat} (hs : 2 ≤ s) (hk : k < s) (f : Nat) (h : n * s + k ≠ 0) : digsF s (f + 1) (n * s + k) = k :: digsF s f n := by
  rw [digsF, if_neg h]
  have e1 : (n * s + k) % s = k := by rw [Nat.add_comm, Nat.add_mul_mod_self_right, Nat.mod_eq_of_lt hk]
  have e2 : (n * s + k) / s = n := by rw [Nat.add_comm, Nat.add_mul_div_right _ _ (by omega), Nat.div_eq_of_lt hk, Nat.zero_add]
  rw [e1, e2]
theorem digs_more {s : Nat} (hs : 2 ≤ s) : ∀ f n, n < 2 ^ f → digsF s (f + 1) n = digsF s f n
  | 0, n, h => by
    have : n = 0 := by omega
    subst this
    rfl
  | f + 1, n, h => by
    show (if n = 0 then [] else (n % s) :: digsF s (f + 1) (n / s)) = (if n = 0 then [] else (n % s) :: digsF s f (n / s))
    by_cases e : n = 0
    · rw [if_pos e, if_pos e]
    · rw [if_neg e, if_neg e, digs_more hs f (n / s)]
      refine Nat.div_lt_of_lt_mul (Nat.lt_of_lt_of_le h ?_)
      rw [Nat.pow_succ, Nat.mul_comm]
      exact Nat.mul_le_mul_right _ hs
theorem letL_zero {W : List (List Nat)} (h : RuleP W) : letS W 0 97 = 97 := by
  obtain ⟨_, _, _, _, r, hr⟩ := h
  unfold letS
  rw [Nat.sub_self, hr]
  rfl
/-- the letters at near places are the image of the letter -/
theorem near_img {W : List (List Nat)} {s n f : Nat} (hP : RuleP W) (hW : RuleW W s) (hn : n < 2 ^ f) : (List.range s).map (fun k => letL W (digsF s (f + 1) (n * s + k))) = imgL W [letL W (digsF s (f + 1) n)] := by
  have hs := hW.2.2.1
  have hin := letL_in hW (digsF s f n) (digs_lt (by omega) f n)
  rw [digs_more hs f n hn, img_one]
  obtain ⟨w, hw1, hw2, _⟩ := let_in hW hin (show 0 < s by omega)
  have hwl := (hW.2.2.2.2 w hw2).1
  rw [hw1, Option.getD_some]
  refine List.ext_getElem? fun k => ?_
  by_cases hk : k < s
  · rw [List.getElem?_map, List.getElem?_range hk]
    obtain ⟨w', hw1', _, hw3', _⟩ := let_in hW hin hk
    rw [hw1] at hw1'
    obtain rfl := Option.some.inj hw1'
    rw [hw3']
    show some (letL W (digsF s (f + 1) (n * s + k))) = _
    by_cases h0 : n * s + k = 0
    · have hk0 : k = 0 := by omega
      have hn0 : n = 0 := by
        rcases Nat.eq_zero_or_pos n with h | h
        · exact h
        · have := Nat.mul_pos h (show 0 < s by omega)
          omega
      subst hk0 hn0
      rw [Nat.zero_mul, digs_zero, digs_zero]
      exact congrArg some (letL_zero hP).symm
    · rw [digs_next hs hk f h0]
      rfl
  · rw [List.getElem?_eq_none (by rw [List.length_map, List.length_range]; omega), List.getElem?_eq_none (by omega)]
/-- a tuple stays under draws -/
theorem Pen.tup {K : PySem.W.Frag} {H H' : Hp} {p c b : Addr} {n : Nat} {xs : List V} (P : Pen H p c n) (B : But p H H') (h : SqT K H b xs) : SqT K H' b xs := by
  obtain ⟨ns, i, z, ⟨a1, _⟩, _⟩ := P
  rcases h with (h | ⟨o, h⟩) | h
  · exact .inl (.inl (B _ _ (ne_of h a1 fun e => by cases e) h))
  · exact .inl (.inr ⟨o, B _ _ (ne_of h a1 fun e => by cases e) h⟩)
  · exact .inr h
theorem in_letters (c : Nat) (L : List Nat) : inV (V.str (S [c])) (L.map fun c => V.str (S [c])) = decide (c ∈ L) := by
  have e : (L.map fun c => V.str (S [c])) = (L.map fun c => [c]).map vW := by rw [List.map_map]; rfl
  rw [e, show V.str (S [c]) = vW [c] from rfl, in_words]
  refine decide_eq_decide.mpr ⟨fun h => ?_, fun h => List.mem_map_of_mem h⟩
  obtain ⟨d, hd, e⟩ := List.mem_map.mp h
  rw [List.cons.injEq] at e
  exact e.1 ▸ hd
theorem flat_letters (L : List Nat) : (L.map fun c => V.str (S [c])).all flatV = true := by
  have e : (L.map fun c => V.str (S [c])) = (L.map fun c => [c]).map vW := by rw [List.map_map]; rfl
  rw [e]
  exact flat_words _
theorem first_four {n : Nat} (hn : n ≤ 4) (c : Nat) : c ∈ ([97, 98, 99, 100] : List Nat).take n ↔ 97 ≤ c ∧ c < 97 + n := by
  have k1 : ∀ n, n < 5 → ∀ c ∈ ([97, 98, 99, 100] : List Nat).take n, 97 ≤ c ∧ c < 97 + n := by decide
  have k2 : ∀ n, n < 5 → ∀ k, k < n → (97 + k) ∈ ([97, 98, 99, 100] : List Nat).take n := by decide
  constructor
  · exact k1 n (by omega) c
  · intro h
    have := k2 n (by omega) (c - 97) (by omega)
    rwa [show 97 + (c - 97) = c by omega] at this
/-! the law's values -/
def ValOk (d : PyData) : Prop := Lite 50 20000 d ∧ ∀ ds, d = .tuple ds → ∀ f ∈ ds, (strOf f).length ≤ 20000 ∧ ∀ c ∈ strOf f, c < 0x110000
theorem val_tup {ds : List PyData} (h : ∀ d ∈ ds, Lite 20 60 d) (hn : ds.length ≤ 300) : ValOk (.tuple ds) :=
  ⟨(lite_tup (D := 20) (k := 60) (m := 20000) h (Nat.le_trans (Nat.mul_le_mul_right 61 hn) (by decide))).mono (by decide) (Nat.le_refl _), fun es e f hf => by
    cases e
    exact ⟨Nat.le_trans (lite_len (h f hf)) (by decide), lite_codes (h f hf)⟩⟩
theorem val_words {W : List (List Nat)} (h : ∀ w ∈ W, w.length ≤ 60 ∧ ∀ c ∈ w, c < 0x110000) (hn : W.length ≤ 300) : ValOk (.tuple (W.map dW)) :=
  val_tup (fun d hd => by
    obtain ⟨w, hw, rfl⟩ := List.mem_map.mp hd
    exact lite_str (h w hw).1 (h w hw).2) (by rw [List.length_map]; exact hn)
theorem val_of {d : PyData} (h : liteB 50 20000 d = true) (hd : ∀ ds, d = .tuple ds → ds = []) : ValOk d := ⟨lite_of h, fun ds e f hf => by rw [hd ds e] at hf; cases hf⟩
theorem val_list {ds : List PyData} (h : ∀ d ∈ ds, Lite 20 60 d) (hn : ds.length ≤ 300) : ValOk (.list ds) :=
  ⟨(lite_lst (D := 20) (k := 60) (m := 20000) h (Nat.le_trans (Nat.mul_le_mul_right 61 hn) (by decide))).mono (by decide) (Nat.le_refl _), fun es e => nomatch e⟩
/-- a list of values -/
def DV (K : PySem.W.Frag) (H : Hp) (n : Nat) (b : Addr) : Prop := ∃ xs ds, H b = some (.lst xs) ∧ DpAll K H xs ds ∧ (∀ d ∈ ds, ValOk d) ∧ xs.length ≤ n
theorem DV.same {K : PySem.W.Frag} {H H' : Hp} {n : Nat} {b : Addr} (h : DV K H n b) (s : Same H H') : DV K H' n b := by
  obtain ⟨xs, ds, e, d, g, l⟩ := h
  exact ⟨xs, ds, s _ _ e, dpAll_same s _ _ d, g, l⟩
theorem DV.cat {K : PySem.W.Frag} {H : Hp} {n : Nat} {q : Addr} {xs ys : List V} {ds es : List PyData} (hx : DpAll K H xs ds) (gx : ∀ d ∈ ds, ValOk d) (lx : xs.length ≤ n) {m : Nat} (hy : DpAll K H ys es) (gy : ∀ d ∈ es, ValOk d) (ly : ys.length ≤ m)
    (hq : H q = some (.lst (xs ++ ys))) : DV K H (n + m) q :=
  ⟨_, _, hq, dpAll_app hx hy, fun d hd => (List.mem_append.mp hd).elim (gx d) (gy d), by rw [List.length_append]; omega⟩
theorem offD_upd {p D : Addr} {H G : Hp} {o : HO} (h : Same (off p H) (off p G)) : Same (off D (off p H)) (off D (off p (upd G D o))) := fun b z e => by
  by_cases q : b = D
  · unfold off at e
    rw [if_pos q] at e
    cases e
  · have e1 : off p H b = some z := by
      unfold off at e
      rw [if_neg q] at e
      exact e
    have e2 := h b z e1
    by_cases q2 : b = p
    · unfold off at e2
      rw [if_pos q2] at e2
      cases e2
    · unfold off at e2
      rw [if_neg q2] at e2
      refine off_at q (off_at q2 ?_)
      rw [upd_ne q]
      exact e2
theorem off_new {D : Addr} {G : Hp} (h : G D = none) : Same G (off D G) := fun b z e => off_at (fun q => by rw [q, h] at e; cases e) e
theorem DV.use {K : PySem.W.Frag} {H : Hp} {n m : Nat} {b c : Addr} {Q : VK} (hb : DV K H n b) (hc : DV K H m c) (hz : n + m ≤ 1000) (q : ∀ l H', Same H H' → H l = none → DV K H' (n + m) l → Q (.ref l) H') : rCat (.ref b) (.ref c) H Q := by
  obtain ⟨xs, ds, e, d, g, l⟩ := hb
  obtain ⟨ys, es, e', d', g', l'⟩ := hc
  refine ⟨b, c, xs, ys, rfl, rfl, e, e', by rw [sizeLine_eq]; omega, fun r hr => q r _ (Same.new hr) hr ?_⟩
  exact DV.cat (dpAll_same (Same.new hr) _ _ d) g l (dpAll_same (Same.new hr) _ _ d') g' l' upd_same
def valB (ds : List PyData) : Bool := ds.all (liteB 20 60) && decide (ds.length ≤ 300)
theorem val_b {ds : List PyData} (h : valB ds = true) : ValOk (.tuple ds) := by
  unfold valB at h
  rw [Bool.and_eq_true, List.all_eq_true, decide_eq_true_eq] at h
  exact val_tup (fun d hd => lite_of (h.1 d hd)) h.2
theorem flat_rep (s c : Nat) : (List.replicate s [c]).flatten = List.replicate s c := by
  induction s with
  | zero => rfl
  | succ s ih => rw [List.replicate_succ, List.replicate_succ, List.flatten_cons, ih]; rfl

/-! ### sorted(a list of texts of any length) -/
def rSortedSA (K : PySem.W.Frag) : List V → Hp → VK → Prop := fun vs H Q => ∃ (a : Addr) (xs : List (List Nat)), vs = [V.ref a] ∧ SqL K H a (xs.map vW) ∧ xs.length ≤ 100000 ∧
  ∀ (ys : List (List Nat)) (p : Addr), ys.Perm xs → (ys.Pairwise fun a b => ltCps b a = false) → H p = none → Q (.ref p) (upd H p (.lst (ys.map vW)))
theorem cr_sortedSA {X : Cx} : CallR X (.builtin "sorted") (rSortedSA X.K) := by
  intro pins s σ H vs us Q I r h
  obtain ⟨a, xs, rfl, hs, h64, q⟩ := h
  have hs : SqL X.K H a ((xs.map S).map V.str) := by rw [List.map_map]; exact hs
  obtain ⟨its, rv, hl, hz⟩ := I.list hs
  rw [Vals.ref1 r]
  have hlen0 := rv.length
  rw [List.length_map, List.length_map] at hlen0
  refine PyProof.Rows.sorted_strsAny hl.isList rv.strs (by rw [← hlen0, sizeLine_eq]; omega) fun out ys h1 h2 h3 => ?_
  obtain ⟨ep, he'⟩ := PyProof.Rows.sortedAll_at s.heap its out
  obtain ⟨ms, rfl⟩ : ∃ ms : List (List Nat), ys = ms.map S := ⟨ys.map fun z => z.cps.toList, by rw [List.map_map]; exact (List.map_id' ys).symm⟩
  have pm : ms.Perm xs := by
    have q := h2.map fun z : Str => z.cps.toList
    rw [List.map_map, List.map_map] at q
    have e : ∀ l : List (List Nat), l.map ((fun z : Str => z.cps.toList) ∘ S) = l := fun l => List.map_id' l
    rw [e, e] at q
    exact q
  have hlen : ((ms.map S).map V.str).length ≤ sizeLine := by rw [List.length_map, List.length_map, pm.length_eq, sizeLine_eq]; omega
  have q2 := q ms (s.heap.objs.size + 1) pm (sortedS_pw h3) (I.hok.fresh (Nat.le_succ _))
  have e : ms.map vW = (ms.map S).map V.str := by rw [List.map_map]; rfl
  rw [e] at q2
  exact ⟨.ref _, upd H (s.heap.objs.size + 1) (.lst ((ms.map S).map V.str)), I.laid (t' := s.toks) (fun _ _ => PyProof.Rows.sortedAll_old) (Nat.le_succ _) ⟨hlen, out.toList, ep, vals_of_strs h1, he'⟩, rfl, q2⟩
theorem srt_uniq {l m : List (List Nat)} (p : l.Perm m) (h1 : l.Pairwise fun a b => ltCps b a = false) (h2 : m.Pairwise fun a b => ltCps b a = false) : l = m := sort_uniq (fun a b x y => lt_total a b y x) p h1 h2

/-! ### sorted(a set of texts), any number of them -/
section
variable {P : Program} {w : World} {A : Around} {E : Value → Shared → Prop} {s : Shared} {a : Addr}
theorem sorted_setWA {zs : List Str} {Q : Value → Shared → Prop} (R : SetW P w s.heap a (keyB (zs.map Sum.inr)) (kdist (zs.map Sum.inr)).length) (hh : A.handled = none) (h64 : zs.length ≤ 4000)
    (hQ : ∀ s1 p (out : Array Value) (c : Nat) (ys : List Str), (∀ b o, s.heap.get? b = some o → s1.heap.get? b = some o) → s1.gens = s.gens → s1.os = s.os → s.heap.objs.size ≤ p → s1.heap.get? p = some (seqObj "list" out c) →
      StrsAre out.toList ys → ys.Nodup → (∀ x, x ∈ ys ↔ x ∈ zs) → sortedS ys = true → Q (.ref p) s1) : wpAny (model P w) A (call (.builtin "sorted") [.ref a]) Q E s := by
  obtain ⟨o, es, ep, t, ho, hx, hd, el, hm, ⟨b1, b2, b3⟩, hr, hl⟩ := R
  have shape : ∀ e ∈ es.toList, ∃ x u, e.2 = Value.str x u ∧ x ∈ zs := fun e he => by
    obtain ⟨⟨k, hk, _⟩, _⟩ := el e he
    have hkz := keyB_iff.mp ((hm k).mpr ⟨e, he, hk⟩)
    obtain ⟨x, hx, rfl⟩ := List.mem_map.mp hkz
    rcases L2.keyIs_shape (k := Sum.inr x) (v := e.2) hk with ⟨i, u, e1, _⟩ | ⟨y, u, e1, e2⟩
    · cases e1
    · cases e1
      exact ⟨x, u, e2, hx⟩
  -- the texts in the set, each once
  have pm0 : (es.toList.map fun e => (Sum.inr (textOf e.2) : Key)).Perm (kdist (zs.map Sum.inr)) := by
    refine perm_nodup (kdist_nodup _) (fun k hk => ?_) (by rw [List.length_map, Array.length_toList, b3]; exact Nat.le_refl _)
    obtain ⟨e, he, hi⟩ := (hm k).mp (keyB_iff.mpr (mem_kdist.mp hk))
    refine List.mem_map.mpr ⟨e, he, ?_⟩
    rcases L2.keyIs_shape (k := k) (v := e.2) hi with ⟨i, u, rfl, e2⟩ | ⟨y, u, rfl, e2⟩
    · obtain ⟨x, u2, e3, _⟩ := shape e he
      rw [e2] at e3; cases e3
    · rw [e2]; rfl
  have nd0 : (es.toList.map fun e => textOf e.2).Nodup := by
    have q := (pm0.nodup_iff).mpr (kdist_nodup _)
    have q2 : ((es.toList.map fun e => textOf e.2).map fun x : Str => (Sum.inr x : Key)).Nodup := by rw [List.map_map]; exact q
    exact (List.pairwise_map.mp q2).imp fun h e => h (by rw [e])
  have mem0 : ∀ x, x ∈ (es.toList.map fun e => textOf e.2) ↔ x ∈ zs := fun x => by
    have q : (Sum.inr x : Key) ∈ (es.toList.map fun e => (Sum.inr (textOf e.2) : Key)) ↔ (Sum.inr x : Key) ∈ kdist (zs.map Sum.inr) := pm0.mem_iff
    rw [mem_kdist, List.mem_map, List.mem_map] at q
    rw [List.mem_map]
    constructor
    · rintro ⟨e, he, rfl⟩
      obtain ⟨y, hy, e1⟩ := q.mp ⟨e, he, rfl⟩
      cases e1; exact hy
    · intro hz
      obtain ⟨e, he, e1⟩ := q.mpr ⟨x, hz, rfl⟩
      exact ⟨e, he, Sum.inr.inj e1⟩
  have len0 : es.toList.length ≤ zs.length := by
    have := pm0.length_eq
    have k2 := kdist_len (zs.map (Sum.inr : Str → Key))
    rw [List.length_map] at this k2
    omega
  refine Calls.call_function_entry kind_sorted plain_sorted entry_sorted (args_sorted1 _) (show wpAny _ _ (Builtin.«sorted» _) _ _ _ from ?_)
  unfold Builtin.«sorted»
  refine wpAny_bind (m := checkCount "sorted" 1 1 _) (wpAny_pure (wpAny_bind (collect_set (A := A.in1) hh ⟨o, ho, hx.1, hd⟩ b2 b1 hr hl fun s1 vs k1 hz g1 o1 pm => ?_)))
  have hvs : ∀ v ∈ vs, ∃ x u, v = Value.str x u := fun v hv => by
    obtain ⟨e, he, q⟩ := List.mem_map.mp (pm.mem_iff.mp hv)
    obtain ⟨x, u, h1, _⟩ := shape e he
    exact ⟨x, u, by rw [← q]; exact h1⟩
  have hS : StrsAre vs (vs.map textOf) := strs_shape vs hvs
  have hlen : vs.length ≤ zs.length := by rw [pm.length_eq, List.length_map]; exact len0
  have pk : (vs.map textOf).Perm (es.toList.map fun e => textOf e.2) := by
    have q := pm.map textOf
    rw [List.map_map] at q
    exact q
  refine wpAny_bind (wpAny_newList (show _ from ?_) (by rw [sizeLine_eq]; omega))
  have hoL : (s1.heap.push (seqObj "list" vs.toArray 0)).get? s1.heap.objs.size = some (seqObj "list" vs.toArray 0) := Heap.get?_push_size _ rfl
  refine wpAny_bind (wpAny_holding (wpAny_call_entry slot_list_sort ⟨_, hoL, rfl⟩ entry_list_sort (list_sort_treeKAny strKind_oneLt hoL hS.keysOf (fun v1 v2 rest e => keyKind_strs (by rw [← e]; exact hS)) (by rw [sizeLine_eq]; omega) fun st1 hp hs => ⟨_, rfl, ?_⟩) (args_list_sort _)))
  obtain ⟨ys, y1, y2, y3⟩ := sorted_out_str hS hp hs
  obtain ⟨c, hc⟩ := sortedHeap_at (vs := vs) (out := (arrOf st1).map (·.2)) hoL
  have pn := y2.trans pk
  refine wpAny_pure ⟨_, rfl, hQ _ s1.heap.objs.size _ c ys (fun b u e => ?_) g1 o1 hz hc y1 (pn.nodup_iff.mpr nd0) (fun x => by rw [pn.mem_iff, mem0]) y3⟩
  have q := k1 b u e
  have lt := Heap.lt_size q
  rw [show ({ s1 with heap := sortedHeap (s1.heap.push (seqObj "list" vs.toArray 0)) s1.heap.objs.size vs ((arrOf st1).map (·.2)) } : Shared).heap.get? b = (sortedHeap (s1.heap.push (seqObj "list" vs.toArray 0)) s1.heap.objs.size vs ((arrOf st1).map (·.2))).get? b from rfl,
    sortedHeap_old (Nat.ne_of_lt lt) (by rw [size_push']; exact Nat.lt_succ_of_lt lt)]
  exact Heap.get?_push_of_some _ q
end
def rSortSetSA (P : Program) (w : World) : List V → Hp → VK → Prop := fun vs H Q => ∃ (a : Addr) (zs : List (List Nat)), vs = [V.ref a] ∧ H a = some (setOfK P w a (zs.map fun m => (Sum.inr (S m) : Key))) ∧ zs.length ≤ 4000 ∧
  ∀ (ys : List (List Nat)) (p : Addr), ys.Nodup → (∀ x, x ∈ ys ↔ x ∈ zs) → (ys.Pairwise fun a b => ltCps b a = false) → H p = none → Q (.ref p) (upd H p (.lst (ys.map vW)))
theorem cr_sortSetSA {X : Cx} (hc : X.calm = true) : CallR X (.builtin "sorted") (rSortSetSA X.prog X.w) := by
  intro pins s σ H vs us Q I r h
  obtain ⟨a, zs, rfl, ha, h64, q⟩ := h
  rw [Vals.ref1 r]
  have ez : (zs.map fun m => (Sum.inr (S m) : Key)) = (zs.map S).map Sum.inr := by rw [List.map_map]; rfl
  rw [ez] at ha
  refine sorted_setWA (setH_get I ha) (I.ok.hd hc) (by rw [List.length_map]; exact h64) fun s1 p out c ys k g o hp hg y1 y2 y3 y4 => ?_
  obtain ⟨ms, rfl⟩ : ∃ ms : List (List Nat), ys = ms.map S := ⟨ys.map fun z => z.cps.toList, by rw [List.map_map]; exact (List.map_id' ys).symm⟩
  have ndm : ms.Nodup := (List.pairwise_map.mp y2).imp fun h e => h (by rw [e])
  have mm : ∀ x, x ∈ ms ↔ x ∈ zs := fun x => by
    have q := y3 (S x)
    rw [List.mem_map, List.mem_map] at q
    constructor
    · intro h
      obtain ⟨z, hz, e⟩ := q.mp ⟨x, h, rfl⟩
      rw [← SX.S_inj e]; exact hz
    · intro h
      obtain ⟨z, hz, e⟩ := q.mpr ⟨x, h, rfl⟩
      rw [← SX.S_inj e]; exact hz
  have hlen : ((ms.map S).map V.str).length ≤ sizeLine := by
    have := nodup_len ndm fun x hx => (mm x).mp hx
    rw [List.length_map, List.length_map, sizeLine_eq]; omega
  have hn : H p = none := I.hok.fresh hp
  have J : Inv X pins σ (upd H p (.lst ((ms.map S).map V.str))) { s with heap := s1.heap, gens := s1.gens, drawn := s1.drawn, toks := s1.toks } :=
    I.call (ch := []) (Un.laid k hp hn) (I.hok.laid k hp ⟨hlen, out.toList, c, vals_of_strs y1, hg⟩) (by rw [g]; exact I.bare) (fun _ z => nomatch z)
  have e : s1 = { s with heap := s1.heap, gens := s1.gens, drawn := s1.drawn, toks := s1.toks } := by cases s1; cases s; cases o; rfl
  rw [e]
  have q2 := q ms p ndm mm (sortedS_pw y4) hn
  have e2 : ms.map vW = (ms.map S).map V.str := by rw [List.map_map]; rfl
  rw [e2] at q2
  exact ⟨.ref p, _, J, rfl, q2⟩

/-! ### a dict with one tuple key; sorted(list of (text, number)) -/
open PyProof.Rows.G in
def pairI (a : List Nat × Nat) : List (Int ⊕ List Nat) := [.inr a.1, .inl (a.2 : Int)]
def SrtI (ks : List (List Nat × Nat)) : Prop := ks.Pairwise fun a b => ordK.kle (pairI a) (pairI b)
def shI : Nat → Bool := fun i => i == 0
theorem pairI_items {a : List Nat} {b : Nat} {t u : Tok} : tupItems shI 0 (#[Value.str (S a) t, Value.int (b : Int) u] : Array Value).toList = some (pairI (a, b)) := by
  show some [Sum.inr (S a).cps.toList, Sum.inl (b : Int)] = _
  rfl
theorem tupsI_of {h : Heap} : ∀ vs : List Value, (∀ v ∈ vs, ∃ f, TupOf h shI v f) → ∃ fs, TupsOf h shI vs fs
  | [], _ => ⟨[], .nil⟩
  | v :: r, k => by
    obtain ⟨f, hf⟩ := k v List.mem_cons_self
    obtain ⟨fs, hfs⟩ := tupsI_of r fun u hu => k u (List.mem_cons_of_mem _ hu)
    exact ⟨f :: fs, .cons hf hfs⟩
theorem pairI_key {h : Heap} {a : Addr} {o : Obj} {xs : Array Value} {n : Nat} {l : List (Int ⊕ List Nat)} (ho : h.get? a = some o) (hc : o.cls = .type "tuple") (hd : o.data = .seq xs n) (hi : tupItems shI 0 xs.toList = some l) : PyProof.Rows.G.tupKeyC h shI (.ref a) = some l := by
  have e1 : PyProof.Rows.G.isTupObj h (.ref a) = true := by simp [PyProof.Rows.G.isTupObj, ho, hc]
  unfold PyProof.Rows.G.tupKeyC; rw [if_pos e1]; simp only [tupKey, ho, hd]; exact hi
def rSortTI (K : PySem.W.Frag) : List V → Hp → VK → Prop := fun vs H Q => ∃ (a : Addr) (xs : List V) (key : V → List Nat × Nat), vs = [V.ref a] ∧ SqL K H a xs ∧ (∀ x ∈ xs, ∃ t, x = V.ref t ∧ H t = some (.tup [.str (S (key x).1), .int ((key x).2 : Int)])) ∧
  ∀ ys p, ys.Perm xs → SrtI (ys.map key) → H p = none → Q (.ref p) (upd H p (.lst ys))
theorem cr_sortTI {X : Cx} : CallR X (.builtin "sorted") (rSortTI X.K) := by
  intro pins s σ H vs us Q I r h
  obtain ⟨a, xs, key, rfl, hs, hx, q⟩ := h
  obtain ⟨its, rv, hl, hz⟩ := I.list hs
  obtain ⟨u, rfl, ru⟩ := vals1 r
  obtain rfl : u = Value.ref a := ru
  obtain ⟨e1, e2⟩ := refs_back rv fun x m => by
    obtain ⟨t, e, _⟩ := hx x m
    exact ⟨t, e⟩
  have tup : ∀ v ∈ its, ∃ b o n t1 t2, v = .ref b ∧ s.heap.get? b = some o ∧ o.cls = .type "tuple" ∧ o.data = .seq #[.str (S (key (backV v)).1) t1, .int ((key (backV v)).2 : Int) t2] n := fun v hv => by
    obtain ⟨t, rfl⟩ := e2 v hv
    have hm : V.ref t ∈ xs := by rw [e1]; exact List.mem_map.mpr ⟨_, hv, rfl⟩
    obtain ⟨b, e, ht⟩ := hx _ hm
    cases e
    obtain ⟨_, its2, r2, o, ho, hc, n, hd⟩ := I.hok _ _ ht
    obtain ⟨u1, u2, rfl, ri, rj⟩ := vals2 r2
    obtain ⟨t1, rfl⟩ := ri
    obtain ⟨t2, rfl⟩ := rj
    exact ⟨t, o, n, t1, t2, rfl, ho, hc, hd⟩
  have kc : ∀ v ∈ its, PyProof.Rows.G.tupKeyC s.heap shI v = some (pairI (key (backV v))) := fun v hv => by
    obtain ⟨b, o, n, t1, t2, rfl, ho, hc, hd⟩ := tup v hv
    exact pairI_key ho hc hd pairI_items
  obtain ⟨fs, ht⟩ := tupsI_of (h := s.heap) its fun v hv => by
    obtain ⟨b, o, n, t1, t2, rfl, ho, hc, hd⟩ := tup v hv
    exact ⟨_, b, o, _, n, rfl, ho, hc, hd, rfl, fun e => (nomatch e), fun _ => ⟨_, _, rfl⟩⟩
  have hz2 : its.length ≤ sizeLine := by rw [← rv.length]; exact hz
  refine PyProof.Rows.G.sorted_tups hl.isList ht (fun v hv => ⟨_, kc v hv⟩) hz2 fun st hp hs _ => ?_
  have hp2 : (arrOf st).toList.Perm (its.zip its) := by rw [← pairsOf_toList]; exact Array.perm_iff_toList_perm.mp hp
  have mem : ∀ p ∈ (arrOf st).toList, p.1 = p.2 ∧ p.1 ∈ its := fun p hm => mem_zip_self (hp2.mem_iff.mp hm)
  have pz : ((arrOf st).map (·.2)).toList.Perm its := by
    rw [Array.toList_map]
    have z := hp2.map (·.2)
    rwa [List.map_snd_zip (Nat.le_refl _)] at z
  have h3 : ∀ u ∈ ((arrOf st).map (·.2)).toList, ∃ a, u = Value.ref a := fun u hu => e2 u (pz.mem_iff.mp hu)
  obtain ⟨ep, he⟩ := sortedAll_at s.heap its ((arrOf st).map (·.2))
  refine ⟨.ref (s.heap.objs.size + 1), upd H (s.heap.objs.size + 1) (.lst (((arrOf st).map (·.2)).toList.map backV)), I.laid (t' := s.toks) (fun _ _ => sortedAll_old) (Nat.le_succ _) ⟨?_, _, ep, vals_back h3, he⟩, rfl, q _ _ ?_ ?_ (I.hok.fresh (Nat.le_succ _))⟩
  · rw [List.length_map, pz.length_eq]; exact hz2
  · rw [e1]; exact pz.map backV
  · have sz : (pairsOf its).size = (arrOf st).toList.length := by rw [Array.length_toList]; exact hp.size_eq.symm
    rw [Array.toList_map, List.map_map, List.map_map]
    unfold SrtI
    rw [List.pairwise_map, List.pairwise_iff_getElem]
    intro i j hi hj hij
    have k := hs i j (Nat.le_of_lt hij) (by rw [sz]; exact hj)
    have at_ : ∀ m (hm : m < (arrOf st).toList.length), KK (PyProof.Rows.G.tupKindC s.heap shI) (arrOf st) m = pairI (key (backV ((arrOf st).toList[m]).2)) := fun m hm => by
      have e : (arrOf st)[m]? = some ((arrOf st).toList[m]) := by rw [← Array.getElem?_toList]; exact List.getElem?_eq_getElem hm
      obtain ⟨p1, p2⟩ := mem _ (List.getElem_mem hm)
      unfold KK
      rw [e]
      show (PyProof.Rows.G.tupKeyC s.heap shI ((arrOf st).toList[m]).1).getD [] = _
      rw [kc _ p2, p1]
      rfl
    rw [at_ i hi, at_ j hj] at k
    exact k
section
variable {X : Cx}
def tDispT (tk tv : TE) : TE := fun σ H Q => ∀ p, H p = none → tk σ (upd H p (.dT [])) fun x H1 => tv σ H1 fun y H2 => ∃ (b : Addr) (k : List Key), x = .ref b ∧ H2 b = some (.tup (k.map kV)) ∧ H2 p = some (.dT []) ∧ Q (.ref p) (upd H2 p (.dT [(k, y)]))
theorem pe_dispT {k v : Expr} {tk tv : TE} {pos : Pos} (hu : X.A.units + 1 < cLine) (hk : PE X k tk) (hv : PE X v tv) : PE X (.Dict [some k] [v] pos) (tDispT tk tv) := by
  refine ⟨fun pins s σ H Q I q => ?_⟩
  have hn := I.hok.fresh (Nat.le_refl s.heap.objs.size)
  have I1 := I.laid (a := s.heap.objs.size) (o := .dT []) (h' := s.heap.push { cls := .type "dict", data := .dict #[] }) (t' := s.toks) (fun _ _ q => Heap.get?_push_of_some _ q) (Nat.le_refl _) (dt_empty s.heap I.big)
  refine wpAny_Dict_any rfl rfl (by simp) (by show 1 ≤ 15; decide) (thn ((pps_cons hk hv pps_nil).run pins _ σ _ (fun ps H2 => match ps with
    | [(x, y)] => ∃ (b : Addr) (k : List Key), x = .ref b ∧ H2 b = some (.tup (k.map kV)) ∧ H2 s.heap.objs.size = some (.dT []) ∧ Q (.ref s.heap.objs.size) (upd H2 s.heap.objs.size (.dT [(k, y)]))
    | _ => False) I1 (show tPairs [(tk, tv)] σ _ _ from q _ hn)) fun ws s2 ⟨ps, H2, I2, rel, z⟩ => ?_)
  match ps, z with
  | [(x, y)], z =>
    obtain ⟨b, ky, rfl, eb, ed, q2⟩ := z
    cases rel with
    | @cons a c as bs h t =>
      cases t
      obtain ⟨c1, c2⟩ := c
      obtain ⟨h1, h2⟩ := h
      cases (show c1 = Value.ref b from h1)
      obtain ⟨z, hd, xs, rel, dd⟩ := dt_of I2.hok ed
      cases rel
      unfold storeAll
      rw [List.forIn_cons]
      refine wpAny_bind (wpAny_bind (wpAny_dictSet_heap (hsz := z) (show (tupleKind (mixKind X.prog X.w)).room X.A from Nat.lt_of_succ_lt hu) (key_of I2.hok eb) dd fun h' dd' hs => wpAny_pure ?_))
      show wpAny _ _ (forIn ([] : List (Value × Value)) PUnit.unit _) _ _ _
      rw [List.forIn_nil]
      refine wpAny_pure ⟨.ref s.heap.objs.size, _, ?_, rfl, q2⟩
      obtain ⟨q, es, ep, hq, h2', h3, h4, _, h5⟩ := dd'
      refine d_write I2 (by rw [ed]; exact True.intro) hs ⟨q, hq⟩ ⟨by show 1 ≤ sizeLine; decide, hd, _, (KT.put (show KT H2 [] [] from Paired.nil) ky eb h2).keeps fun c ys ec => ?_, q, es, ep, hq, h2', h3, h4, h5⟩
      rw [upd_ne (ne_of ec ed (fun z => nomatch z))]
      exact ec
end

/-! ### windows of words, closed lists of factors -/
def winL (n : Nat) (w : List Nat) : List (List Nat) := (List.range (w.length + 1 - n)).map fun k => (w.drop k).take n
theorem win_mem {n : Nat} {w u : List Nat} : u ∈ winL n w ↔ ∃ k, k + n ≤ w.length ∧ u = (w.drop k).take n := by
  unfold winL
  rw [List.mem_map]
  constructor
  · rintro ⟨k, hk, rfl⟩
    exact ⟨k, by have := List.mem_range.mp hk; omega, rfl⟩
  · rintro ⟨k, hk, rfl⟩
    exact ⟨k, List.mem_range.mpr (by omega), rfl⟩
theorem win_len {n : Nat} {w u : List Nat} (h : u ∈ winL n w) : u.length = n := by
  obtain ⟨k, hk, rfl⟩ := win_mem.mp h
  rw [List.length_take, List.length_drop]
  omega
theorem win_sub {n : Nat} {w u : List Nat} (h : u ∈ winL n w) : ∀ c ∈ u, c ∈ w := by
  obtain ⟨k, _, rfl⟩ := win_mem.mp h
  exact fun c hc => List.mem_of_mem_drop (List.mem_of_mem_take hc)
theorem img_append (W : List (List Nat)) (a b : List Nat) : imgL W (a ++ b) = imgL W a ++ imgL W b := List.flatMap_append ..
/-- the image of a part is a part of the image -/
theorem img_part {W : List (List Nat)} {s : Nat} (h : RuleW W s) {l : List Nat} (hl : ∀ c ∈ l, 97 ≤ c ∧ c < 97 + W.length) (a r : Nat) (ha : a + r ≤ l.length) : imgL W ((l.drop a).take r) = ((imgL W l).drop (a * s)).take (r * s) := by
  have e : l = l.take a ++ ((l.drop a).take r ++ l.drop (a + r)) := by
    rw [← List.drop_drop, List.take_append_drop, List.take_append_drop]
  have l1 : (imgL W (l.take a)).length = a * s := by
    rw [(img_in h fun c hc => hl c (List.mem_of_mem_take hc)).1, List.length_take, Nat.min_eq_left (by omega)]
  have l2 : (imgL W ((l.drop a).take r)).length = r * s := by
    rw [(img_in h fun c hc => hl c (List.mem_of_mem_drop (List.mem_of_mem_take hc))).1, List.length_take, List.length_drop, Nat.min_eq_left (by omega)]
  have e2 : imgL W l = imgL W (l.take a) ++ (imgL W ((l.drop a).take r) ++ imgL W (l.drop (a + r))) := by
    rw [← img_append, ← img_append, ← e]
  rw [e2, ← l1, List.drop_left, ← l2, List.take_left]
def reachL (n s : Nat) : Nat := (n + s - 2) / s + 1
theorem reach_le {n s : Nat} (hn : 1 ≤ n) (hs : 2 ≤ s) : reachL n s ≤ n := by
  unfold reachL
  have h : n + s - 2 < n * s := by
    obtain ⟨m, rfl⟩ : ∃ m, n = m + 1 := ⟨n - 1, by omega⟩
    have : m ≤ m * s := Nat.le_mul_of_pos_right m (by omega)
    rw [Nat.succ_mul]
    omega
  have := (Nat.div_lt_iff_lt_mul (show 0 < s by omega)).mpr h
  omega
theorem reach_big {n s : Nat} (hn : 1 ≤ n) (hs : 2 ≤ s) : n + s - 1 ≤ reachL n s * s := by
  unfold reachL
  have h1 := Nat.div_add_mod (n + s - 2) s
  have h2 := Nat.mod_lt (n + s - 2) (show 0 < s by omega)
  rw [Nat.add_mul, Nat.one_mul]
  rw [Nat.mul_comm] at h1
  omega
theorem take_drop_part {l : List Nat} {a r p n : Nat} (h : p + n ≤ r) : (((l.drop a).take r).drop p).take n = (l.drop (a + p)).take n := by
  rw [List.drop_take, List.take_take, Nat.min_eq_left (by omega), List.drop_drop]
/-- windows of the image: those of the images of the parts of as many letters as a window reaches -/
theorem win_img {W : List (List Nat)} {s n : Nat} (h : RuleW W s) (hn : 1 ≤ n) {w : List Nat} (hw : w.length = n) (hl : ∀ c ∈ w, 97 ≤ c ∧ c < 97 + W.length) (u : List Nat) :
    u ∈ winL n (imgL W w) ↔ ∃ v ∈ winL (reachL n s) w, u ∈ winL n (imgL W v) := by
  have hs := h.2.2.1
  have il := (img_in h hl).1
  have rl := reach_le hn hs
  have rb := reach_big hn hs
  rw [hw] at il
  constructor
  · intro hu
    obtain ⟨p, hp, rfl⟩ := win_mem.mp hu
    rw [il] at hp
    have h1 := Nat.div_add_mod p s
    have h2 := Nat.mod_lt p (show 0 < s by omega)
    rw [Nat.mul_comm] at h1
    obtain ⟨a, ha, ha2, ha3⟩ : ∃ a, a + reachL n s ≤ n ∧ a * s ≤ p ∧ p - a * s + n ≤ reachL n s * s := by
      rcases Nat.lt_or_ge (n - reachL n s) (p / s) with q | q
      · refine ⟨n - reachL n s, by omega, Nat.le_trans (Nat.mul_le_mul_right s (Nat.le_of_lt q)) (by omega), ?_⟩
        have e : (n - reachL n s) * s + reachL n s * s = n * s := by rw [← Nat.add_mul, Nat.sub_add_cancel rl]
        have : (n - reachL n s) * s ≤ p := Nat.le_trans (Nat.mul_le_mul_right s (Nat.le_of_lt q)) (by omega)
        omega
      · exact ⟨p / s, by omega, by omega, by omega⟩
    refine ⟨(w.drop a).take (reachL n s), win_mem.mpr ⟨a, by omega, rfl⟩, win_mem.mpr ⟨p - a * s, ?_, ?_⟩⟩
    · rw [(img_in h fun c hc => hl c (List.mem_of_mem_drop (List.mem_of_mem_take hc))).1, List.length_take, List.length_drop, Nat.min_eq_left (by omega)]
      exact ha3
    · rw [img_part h hl a (reachL n s) (by omega), take_drop_part ha3, show a * s + (p - a * s) = p by omega]
  · rintro ⟨v, hv, hu⟩
    obtain ⟨a, ha, rfl⟩ := win_mem.mp hv
    obtain ⟨p, hp, rfl⟩ := win_mem.mp hu
    rw [(img_in h fun c hc => hl c (List.mem_of_mem_drop (List.mem_of_mem_take hc))).1, List.length_take, List.length_drop, Nat.min_eq_left (by omega)] at hp
    rw [img_part h hl a (reachL n s) (by omega), take_drop_part hp]
    refine win_mem.mpr ⟨a * s + p, ?_, rfl⟩
    rw [il]
    have e : a * s + reachL n s * s ≤ n * s := by rw [← Nat.add_mul]; exact Nat.mul_le_mul_right s (by omega)
    omega
/-! the first letters of the rule word -/
def LeastI (s n i : Nat) : Prop := n ≤ s ^ i ∧ ∀ j, j < i → s ^ j < n
theorem least_uniq {s n i j : Nat} (h : LeastI s n i) (k : LeastI s n j) : i = j := by
  rcases Nat.lt_trichotomy i j with q | q | q
  · have := k.2 i q; have := h.1; omega
  · exact q
  · have := h.2 j q; have := k.1; omega
noncomputable def stL (W : List (List Nat)) (s n : Nat) : List Nat := (growN W (Classical.epsilon (LeastI s n))).take n
theorem stL_of {W : List (List Nat)} {s n i : Nat} (h1 : n ≤ s ^ i) (h2 : ∀ j, j < i → s ^ j < n) : (growN W i).take n = stL W s n := by
  have h : LeastI s n i := ⟨h1, h2⟩
  have := Classical.epsilon_spec (p := LeastI s n) ⟨i, h⟩
  unfold stL
  rw [least_uniq h this]
/-! closed lists of words -/
def FlP (W : List (List Nat)) (n : Nat) (st : List Nat) (ws : List (List Nat)) : Prop := (∀ w ∈ ws, w.length = n ∧ ∀ c ∈ w, 97 ≤ c ∧ c < 97 + W.length) ∧ (∀ w ∈ ws, ∀ u ∈ winL n (imgL W w), u ∈ ws) ∧ st ∈ ws
open Classical in
noncomputable def flGo (W : List (List Nat)) (n : Nat) (st : List Nat) (ds : List PyData) : Bool := ds.all dStr && decide (FlP W n st (ds.map strOf))
noncomputable def flD (W : List (List Nat)) (n : Nat) (st : List Nat) : PyData → Bool
  | .list ds => flGo W n st ds
  | _ => false
open Classical in
theorem fl_no {W : List (List Nat)} {n : Nat} {st : List Nat} {ds : List PyData} (h : (∀ d ∈ ds, dStr d = true) → ¬ FlP W n st (ds.map strOf)) : flGo W n st ds = false := by
  unfold flGo
  rw [Bool.and_eq_false_iff]
  cases e : ds.all dStr with
  | false => exact .inl rfl
  | true => exact .inr (decide_eq_false (h (List.all_eq_true.mp e)))
open Classical in
theorem fl_yes {W : List (List Nat)} {n : Nat} {st : List Nat} {ds : List PyData} (h : ∀ d ∈ ds, dStr d = true) (k : FlP W n st (ds.map strOf)) : flGo W n st ds = true := by
  unfold flGo
  rw [List.all_eq_true.mpr h, Bool.true_and]
  exact decide_eq_true k
/-! what comes out of a word -/
inductive Rch (W : List (List Nat)) (n : Nat) (st : List Nat) : List Nat → Prop
  | start : Rch W n st st
  | step {w u : List Nat} : Rch W n st w → u ∈ winL n (imgL W w) → Rch W n st u
theorem rch_closed {W : List (List Nat)} {n : Nat} {st : List Nat} {ws : List (List Nat)} (h : FlP W n st ws) {w : List Nat} (k : Rch W n st w) : w ∈ ws := by
  induction k with
  | start => exact h.2.2
  | step _ hu ih => exact h.2.1 _ ih _ hu
theorem rch_in {W : List (List Nat)} {s n : Nat} (h : RuleW W s) {st : List Nat} (h0 : st.length = n ∧ ∀ c ∈ st, 97 ≤ c ∧ c < 97 + W.length) {w : List Nat} (k : Rch W n st w) : w.length = n ∧ ∀ c ∈ w, 97 ≤ c ∧ c < 97 + W.length := by
  induction k with
  | start => exact h0
  | step _ hu ih => exact ⟨win_len hu, fun c hc => (img_in h ih.2).2 c (win_sub hu c hc)⟩
theorem rch_fl {W : List (List Nat)} {s n : Nat} (h : RuleW W s) {st : List Nat} (h0 : st.length = n ∧ ∀ c ∈ st, 97 ≤ c ∧ c < 97 + W.length) {ws : List (List Nat)} (hw : ∀ w, w ∈ ws ↔ Rch W n st w) : FlP W n st ws :=
  ⟨fun w hm => rch_in h h0 ((hw w).mp hm), fun w hm u hu => (hw u).mpr (.step ((hw w).mp hm) hu), (hw st).mpr .start⟩
theorem fl_perm {W : List (List Nat)} {n : Nat} {st : List Nat} {ws us : List (List Nat)} (e : ∀ w, w ∈ us ↔ w ∈ ws) (h : FlP W n st ws) : FlP W n st us :=
  ⟨fun w hw => h.1 w ((e w).mp hw), fun w hw u hu => (e u).mpr (h.2.1 w ((e w).mp hw) u hu), (e st).mpr h.2.2⟩
/-- a factor less: no closed list -/
theorem fl_less {W : List (List Nat)} {n : Nat} {st : List Nat} {us : List (List Nat)} {w : List Nat} (hw : Rch W n st w) (hn : w ∉ us) : ¬ FlP W n st us := fun h => hn (rch_closed h hw)
/-! all words -/
def allW (m : Nat) : Nat → List (List Nat)
  | 0 => [[]]
  | n + 1 => (allW m n).flatMap fun w => (List.range m).map fun k => (97 + k) :: w
theorem allW_len (m : Nat) : ∀ n, (allW m n).length = m ^ n
  | 0 => rfl
  | n + 1 => by
    rw [allW, List.length_flatMap]
    have : ((allW m n).map fun w => ((List.range m).map fun k => (97 + k) :: w).length) = (allW m n).map fun _ => m := List.map_congr_left fun w _ => by rw [List.length_map, List.length_range]
    rw [this, List.map_const', List.sum_replicate_nat, allW_len m n, Nat.pow_succ]
theorem allW_mem {m : Nat} : ∀ {w : List Nat}, (∀ c ∈ w, 97 ≤ c ∧ c < 97 + m) → w ∈ allW m w.length
  | [], _ => List.mem_singleton.mpr rfl
  | c :: w, h => by
    show (c :: w) ∈ (allW m w.length).flatMap _
    refine List.mem_flatMap.mpr ⟨w, allW_mem fun x hx => h x (List.mem_cons_of_mem _ hx), List.mem_map.mpr ⟨c - 97, List.mem_range.mpr ?_, ?_⟩⟩
    · have := h c List.mem_cons_self; omega
    · have := h c List.mem_cons_self
      rw [show 97 + (c - 97) = c by omega]
/-! words with cuts, as keys -/
abbrev WC := List Nat × Nat
def keyWC (p : WC) : List Key := [.inr (S p.1), .inl (p.2 : Int)]
theorem keyWC_inj {p q : WC} (h : keyWC p = keyWC q) : p = q := by
  unfold keyWC at h
  obtain ⟨h1, h2⟩ := List.cons.inj h
  obtain ⟨h2, _⟩ := List.cons.inj h2
  have e1 := SX.S_inj (Sum.inr.inj h1)
  have e2 := Sum.inl.inj h2
  exact Prod.ext e1 (by omega)
theorem keyWC_V (p : WC) : (keyWC p).map kV = [.str (S p.1), .int (p.2 : Int)] := rfl
def kvWC (ps : List WC) : List (List Key × V) := ps.map fun p => (keyWC p, V.bl true)
def allP (m n s : Nat) : List WC := (allW m n).flatMap fun w => (List.range s).map fun k => (w, k)
theorem allP_len (m n s : Nat) : (allP m n s).length = m ^ n * s := by
  unfold allP
  rw [List.length_flatMap]
  have : ((allW m n).map fun w => ((List.range s).map fun k => (w, k)).length) = (allW m n).map fun _ => s := List.map_congr_left fun w _ => by rw [List.length_map, List.length_range]
  rw [this, List.map_const', List.sum_replicate_nat, allW_len]
theorem allP_mem {m n s : Nat} {p : WC} (h1 : p.1.length = n) (h2 : ∀ c ∈ p.1, 97 ≤ c ∧ c < 97 + m) (h3 : p.2 < s) : p ∈ allP m n s := by
  unfold allP
  refine List.mem_flatMap.mpr ⟨p.1, h1 ▸ allW_mem h2, List.mem_map.mpr ⟨p.2, List.mem_range.mpr h3, rfl⟩⟩
/-! lists of words with cuts -/
def vZ (z : Addr × WC) : V := .ref z.1
def dZ (z : Addr × WC) : PyData := .tuple [.str (S z.2.1), .int (z.2.2 : Int)]
def AtZ (H : Hp) (zs : List (Addr × WC)) : Prop := ∀ z ∈ zs, H z.1 = some (.tup [.str (S z.2.1), .int (z.2.2 : Int)])
theorem AtZ.same {H H' : Hp} {zs : List (Addr × WC)} (h : AtZ H zs) (s : Same H H') : AtZ H' zs := fun z hz => s _ _ (h z hz)
theorem dpZ {K : PySem.W.Frag} {H : Hp} : ∀ {zs : List (Addr × WC)}, AtZ H zs → DpAll K H (zs.map vZ) (zs.map dZ)
  | [], _ => .nil
  | z :: r, h => .cons (.tup (SqT.of (h z List.mem_cons_self)) (.cons (.str _) (.cons (.int _) .nil))) (dpZ fun x hx => h x (List.mem_cons_of_mem _ hx))
theorem layZ : ∀ {zs : List (Addr × WC)}, (∀ z ∈ zs, ∀ c ∈ z.2.1, c < 0x110000) → PyData.canLayAll0 (zs.map dZ) = true ∧ PyData.depthAll (zs.map dZ) ≤ 1
  | [], _ => ⟨by simp [PyData.canLayAll0], by simp [PyData.depthAll]⟩
  | z :: r, h => by
    obtain ⟨a, b⟩ := layZ fun x hx => h x (List.mem_cons_of_mem _ hx)
    have e : (z :: r).map dZ = .tuple [.str (S z.2.1), .int (z.2.2 : Int)] :: r.map dZ := rfl
    have c := (lite_str (D := 0) (Nat.le_refl _) (h z List.mem_cons_self)).c
    rw [e]
    exact ⟨by simp [PyData.canLayAll0, PyData.canLay0, a] <;> simpa [PyData.canLay0] using c, by simp [PyData.depthAll, PyData.depth] <;> omega⟩
theorem shapedZ {zs : List (Addr × WC)} (h : ∀ z ∈ zs, ∀ c ∈ z.2.1, c < 0x110000) : SeqAt.shaped (.list (zs.map dZ)) = true := by
  obtain ⟨a, b⟩ := layZ h
  show (PyData.canLay0 (.list (zs.map dZ)) && decide (PyData.depth (.list (zs.map dZ)) ≤ 64)) = true
  rw [Bool.and_eq_true]
  exact ⟨by simp only [PyData.canLay0]; exact a, decide_eq_true (by simp only [PyData.depth]; omega)⟩
theorem eqv_nil (ds : List PyData) : PyData.eqv (.list ds) (.list []) = decide (ds = []) := by
  cases ds with
  | nil => simp [PyData.eqv, PyData.eqvAll]
  | cons d r => simp [PyData.eqv, PyData.eqvAll]
theorem valV_wc (ps : List WC) (p : WC) : valV (kvWC ps) (keyWC p) = if p ∈ ps then some (V.bl true) else none := by
  unfold kvWC valV
  induction ps with
  | nil => rfl
  | cons q r ih =>
    rw [List.map_cons, List.find?_cons]
    by_cases e : q = p
    · subst e
      rw [show decide (keyWC q = keyWC q) = true from decide_eq_true rfl, if_pos List.mem_cons_self]
      rfl
    · rw [show decide (keyWC q = keyWC p) = false from decide_eq_false fun z => e (keyWC_inj z)]
      show Option.map _ (List.find? _ _) = _
      rw [ih]
      by_cases h : p ∈ r
      · rw [if_pos h, if_pos (List.mem_cons_of_mem _ h)]
      · rw [if_neg h, if_neg fun z => (List.mem_cons.mp z).elim (fun z => e z.symm) h]
theorem valV_wcI (ps : List WC) (p : WC) : (valV (kvWC ps) (keyWC p)).isSome = decide (p ∈ ps) := by
  rw [valV_wc]
  by_cases h : p ∈ ps
  · rw [if_pos h, decide_eq_true h]; rfl
  · rw [if_neg h, decide_eq_false h]; rfl
theorem put_wc {ps : List WC} {p : WC} (h : p ∉ ps) : putK (kvWC ps) (keyWC p) (.bl true) = kvWC (ps ++ [p]) := by
  unfold putK
  rw [if_neg]
  · unfold kvWC
    rw [List.map_append]
    rfl
  · intro z
    obtain ⟨x, hx, e⟩ := List.any_eq_true.mp z
    obtain ⟨q, hq, rfl⟩ := List.mem_map.mp hx
    exact h (keyWC_inj (of_decide_eq_true e) ▸ hq)
theorem keys_both {H : Hp} : ∀ {fk : List WC} {bs : List Addr}, IsKeys H (kvWC fk) bs → (∀ b ∈ bs, ∃ p ∈ fk, H b = some (.tup [.str (S p.1), .int (p.2 : Int)])) ∧ ∀ p ∈ fk, ∃ b ∈ bs, H b = some (.tup [.str (S p.1), .int (p.2 : Int)])
  | [], bs, h => by
    cases h
    exact ⟨fun _ h => (nomatch h), fun _ h => (nomatch h)⟩
  | q :: r, bs, h => by
    unfold IsKeys at h
    have e : kvWC (q :: r) = (keyWC q, V.bl true) :: kvWC r := rfl
    rw [e] at h
    cases h with
    | @cons a b as bs' h1 h2 =>
      obtain ⟨k1, k2⟩ := keys_both (show IsKeys H (kvWC r) bs' from h2)
      have h1 : H b = some (.tup [.str (S q.1), .int (q.2 : Int)]) := h1
      refine ⟨fun x hx => ?_, fun p hp => ?_⟩
      · rcases List.mem_cons.mp hx with rfl | hx
        · exact ⟨q, List.mem_cons_self, h1⟩
        · obtain ⟨p, hp, e⟩ := k1 x hx
          exact ⟨p, List.mem_cons_of_mem _ hp, e⟩
      · rcases List.mem_cons.mp hp with rfl | hp
        · exact ⟨b, List.mem_cons_self, h1⟩
        · obtain ⟨x, hx, e⟩ := k2 p hp
          exact ⟨x, List.mem_cons_of_mem _ hx, e⟩
theorem tupWC_inj {p q : WC} (h : (HO.tup [V.str (S p.1), V.int (p.2 : Int)]) = HO.tup [V.str (S q.1), V.int (q.2 : Int)]) : p = q := by
  have h1 := HO.tup.inj h
  obtain ⟨h2, h3⟩ := List.cons.inj h1
  obtain ⟨h4, _⟩ := List.cons.inj h3
  have e1 := SX.S_inj (V.str.inj h2)
  have e2 := V.int.inj h4
  exact Prod.ext e1 (by omega)
theorem keys_wc {H : Hp} {fk : List WC} {bs : List Addr} (h : IsKeys H (kvWC fk) bs) : ∃ key : V → WC, (∀ x ∈ bs.map V.ref, (∃ t, x = V.ref t ∧ H t = some (.tup [.str (S (key x).1), .int ((key x).2 : Int)])) ∧ key x ∈ fk) ∧ ∀ p ∈ fk, ∃ x ∈ bs.map V.ref, key x = p := by
  obtain ⟨h1, h2⟩ := keys_both h
  have tot : ∀ x : V, ∃ p : WC, x ∈ bs.map V.ref → (∃ t, x = V.ref t ∧ H t = some (.tup [.str (S p.1), .int (p.2 : Int)])) ∧ p ∈ fk := fun x => by
    by_cases hx : x ∈ bs.map V.ref
    · obtain ⟨b, hb, rfl⟩ := List.mem_map.mp hx
      obtain ⟨p, hp, e⟩ := h1 b hb
      exact ⟨p, fun _ => ⟨⟨b, rfl, e⟩, hp⟩⟩
    · exact ⟨([], 0), fun z => absurd z hx⟩
  obtain ⟨key, hk⟩ := Classical.axiomOfChoice tot
  refine ⟨key, fun x hx => hk x hx, fun p hp => ?_⟩
  obtain ⟨b, hb, e⟩ := h2 p hp
  have hx : V.ref b ∈ bs.map V.ref := List.mem_map_of_mem hb
  obtain ⟨⟨t, et, ht⟩, _⟩ := hk _ hx
  cases et
  rw [e] at ht
  exact ⟨_, hx, (tupWC_inj (Option.some.inj ht)).symm⟩
theorem least_ex {s n : Nat} (hs : 2 ≤ s) : ∀ m, n ≤ s ^ m → ∃ i, LeastI s n i
  | 0, h => ⟨0, h, fun j hj => absurd hj (Nat.not_lt_zero j)⟩
  | m + 1, h => by
    by_cases q : n ≤ s ^ m
    · exact least_ex hs m q
    · exact ⟨m + 1, h, fun j hj => by
        have : s ^ j ≤ s ^ m := Nat.pow_le_pow_right (by omega) (by omega)
        omega⟩
theorem stL_in {W : List (List Nat)} {s n : Nat} (hW : RuleW W s) (hn : n ≤ 200) : (stL W s n).length = n ∧ ∀ c ∈ stL W s n, 97 ≤ c ∧ c < 97 + W.length := by
  have hs := hW.2.2.1
  obtain ⟨i, h1, h2⟩ := least_ex (n := n) hs 8 (Nat.le_trans hn (Nat.le_trans (by decide) (Nat.pow_le_pow_left hs 8)))
  rw [← stL_of h1 h2]
  obtain ⟨g1, g2⟩ := grow_ok hW i
  exact ⟨by rw [List.length_take, g1, Nat.min_eq_left h1], fun c hc => g2 c (List.mem_of_mem_take hc)⟩
theorem unlock_same {H HF H' : Hp} {d : Addr} {u : HO} (B : But d H HF) (s : Same HF H') (e : H d = some u) : Same H (upd H' d u) := fun b o h => by
  by_cases q : b = d
  · subst q
    rw [upd_same, ← e, h]
  · rw [upd_ne q]
    exact s _ _ (B _ _ q h)
theorem win_at {n j : Nat} {w : List Nat} (h : j < w.length + 1 - n) : (winL n w)[j]? = some ((w.drop j).take n) := by
  unfold winL
  rw [List.getElem?_map, List.getElem?_range h]
  rfl
theorem win_many {n : Nat} {w : List Nat} : (winL n w).length = w.length + 1 - n := by
  unfold winL
  rw [List.length_map, List.length_range]
def rowsW (n s : Nat) (t : List Nat) : List WC := (List.range (t.length + 1 - n)).map fun k => ((t.drop k).take n, k % s)
theorem rows_at {n s j : Nat} {t : List Nat} (h : j < t.length + 1 - n) : (rowsW n s t)[j]? = some ((t.drop j).take n, j % s) := by
  unfold rowsW
  rw [List.getElem?_map, List.getElem?_range h]
  rfl
theorem rows_len {n s : Nat} {t : List Nat} : (rowsW n s t).length = t.length + 1 - n := by
  unfold rowsW
  rw [List.length_map, List.length_range]
theorem rows_mem {n s : Nat} {t u : List Nat} : (∃ z ∈ rowsW n s t, z.1 = u) ↔ u ∈ winL n t := by
  unfold rowsW
  rw [win_mem]
  constructor
  · rintro ⟨z, hz, rfl⟩
    obtain ⟨k, hk, rfl⟩ := List.mem_map.mp hz
    exact ⟨k, by have := List.mem_range.mp hk; omega, rfl⟩
  · rintro ⟨k, hk, rfl⟩
    exact ⟨_, List.mem_map.mpr ⟨k, List.mem_range.mpr (by omega), rfl⟩, rfl⟩
theorem flat_le {α β : Type} {f : α → List β} {m : Nat} : ∀ {l : List α}, (∀ x ∈ l, (f x).length ≤ m) → (l.flatMap f).length ≤ l.length * m
  | [], _ => by show 0 ≤ _; omega
  | x :: r, h => by
    have h1 := h x List.mem_cons_self
    have h2 := flat_le (l := r) fun y hy => h y (List.mem_cons_of_mem _ hy)
    rw [List.flatMap_cons, List.length_append, List.length_cons, Nat.add_mul]
    omega
theorem kvW_old {ws : List (List Nat)} {m : List Nat} (h : m ∈ ws) : putK (kvW ws) (.inr (S m)) (.bl true) = kvW ws := by
  unfold putK
  rw [if_pos]
  · unfold kvW
    rw [List.map_map]
    refine List.map_congr_left fun q _ => ?_
    show (if (Sum.inr (S q) : Key) = Sum.inr (S m) then ((Sum.inr (S q) : Key), V.bl true) else ((Sum.inr (S q) : Key), V.bl true)) = _
    split <;> rfl
  · refine List.any_eq_true.mpr ⟨(.inr (S m), .bl true), List.mem_map.mpr ⟨m, h, rfl⟩, decide_eq_true rfl⟩
theorem shapedW {ws : List (List Nat)} (h : ∀ w ∈ ws, w.length ≤ 60 ∧ ∀ c ∈ w, c < 0x110000) : SeqAt.shaped (.list (ws.map dW)) = true :=
  lite_shaped (lite_lst (D := 20) (k := 60) (m := (ws.map dW).length * 61) (fun d hd => by
    obtain ⟨w, hw, rfl⟩ := List.mem_map.mp hd
    exact lite_str (h w hw).1 (h w hw).2) (Nat.le_refl _)) (by decide)
/-! few factors -/
theorem rch_sub {W : List (List Nat)} {n : Nat} {st : List Nat} {L : List (List Nat)} (h0 : st ∈ L) (h : ∀ w ∈ L, ∀ u ∈ winL n (imgL W w), u ∈ L) {w : List Nat} (k : Rch W n st w) : w ∈ L := by
  induction k with
  | start => exact h0
  | step _ hu ih => exact h _ ih _ hu
theorem rch_few {W : List (List Nat)} {s n : Nat} (hW : RuleW W s) (hn1 : 1 ≤ n) (hn : n ≤ 200) {ws : List (List Nat)} (nd : ws.Nodup) (h : ∀ w ∈ ws, Rch W n (stL W s n) w) : ws.length ≤ W.length ^ reachL n s * (2 * s) + 1 := by
  have st0 := stL_in hW hn
  have hs := hW.2.2.1
  have e : (stL W s n :: (allW W.length (reachL n s)).flatMap fun v => winL n (imgL W v)).length ≤ W.length ^ reachL n s * (2 * s) + 1 := by
    rw [List.length_cons, ← allW_len]
    refine Nat.succ_le_succ (flat_le fun v hv => ?_)
    have hv2 : v.length = reachL n s ∧ ∀ c ∈ v, 97 ≤ c ∧ c < 97 + W.length := by
      have key : ∀ k, ∀ v ∈ allW W.length k, v.length = k ∧ ∀ c ∈ v, 97 ≤ c ∧ c < 97 + W.length := fun k => by
        induction k with
        | zero => intro v hv; rw [List.mem_singleton.mp hv]; exact ⟨rfl, fun c hc => nomatch hc⟩
        | succ k ih =>
          intro v hv
          obtain ⟨u, hu, hv⟩ := List.mem_flatMap.mp hv
          obtain ⟨j, hj, rfl⟩ := List.mem_map.mp hv
          obtain ⟨a, b⟩ := ih u hu
          refine ⟨by rw [List.length_cons, a], fun c hc => ?_⟩
          rcases List.mem_cons.mp hc with rfl | h
          · have := List.mem_range.mp hj; omega
          · exact b c h
      exact key _ v hv
    rw [win_many, (img_in hW hv2.2).1, hv2.1]
    have h1 := Nat.div_add_mod (n + s - 2) s
    unfold reachL
    rw [Nat.add_mul, Nat.one_mul, Nat.mul_comm]
    omega
  refine Nat.le_trans (nodup_len nd fun w hw => ?_) e
  have hr := h w hw
  cases hr with
  | start => exact List.mem_cons_self
  | step hw' hu =>
    have hin := rch_in hW st0 hw'
    obtain ⟨v, hv, hu⟩ := (win_img hW hn1 hin.1 hin.2 _).mp hu
    refine List.mem_cons_of_mem _ (List.mem_flatMap.mpr ⟨v, ?_, hu⟩)
    rw [← win_len hv]
    exact allW_mem fun c hc => hin.2 c (win_sub hv c hc)
def fnum (n s m : Nat) : Bool := decide (n = 0) || (decide (s < 2) || (decide ((2 * (m ^ reachL n s * (2 * s) + 1) + 140) * (n + 1 - reachL n s) ≤ 4000) && (decide (m ^ reachL n s * (2 * s) + 1 ≤ 390) && decide (m ^ n ≤ 1024))))
theorem few_all : ∀ n, n < 6 → ∀ s, s < 5 → ∀ m, m < 5 → fnum n s m = true := by decide
theorem few_num {n s m : Nat} (h1 : n < 6) (h2 : s < 5) (h3 : m < 5) (h4 : 1 ≤ n) (h5 : 2 ≤ s) : (2 * (m ^ reachL n s * (2 * s) + 1) + 140) * (n + 1 - reachL n s) ≤ 4000 ∧ m ^ reachL n s * (2 * s) + 1 ≤ 390 ∧ m ^ n ≤ 1024 := by
  have h := few_all n h1 s h2 m h3
  unfold fnum at h
  rw [decide_eq_false (show ¬ n = 0 by omega), decide_eq_false (show ¬ s < 2 by omega), Bool.false_or, Bool.false_or, Bool.and_eq_true, Bool.and_eq_true, decide_eq_true_eq, decide_eq_true_eq, decide_eq_true_eq] at h
  exact ⟨h.1, h.2.1, h.2.2⟩
/-! words that stand in the rule word -/
def Fac (W : List (List Nat)) (u : List Nat) : Prop := ∃ i p, p + u.length ≤ (growN W i).length ∧ u = ((growN W i).drop p).take u.length
theorem grow_pre {W : List (List Nat)} (hP : RuleP W) : ∀ i, ∃ t, growN W (i + 1) = growN W i ++ t
  | 0 => by
    obtain ⟨_, _, _, _, r, hr⟩ := hP
    refine ⟨r, ?_⟩
    show imgL W [97] = [97] ++ r
    rw [img_one, Nat.sub_self, hr]
    rfl
  | i + 1 => by
    obtain ⟨t, e⟩ := grow_pre hP i
    refine ⟨imgL W t, ?_⟩
    have h := congrArg (imgL W) e
    rw [img_append] at h
    exact h
theorem grow_more {W : List (List Nat)} (hP : RuleP W) (i : Nat) : ∀ k, ∃ t, growN W (i + k) = growN W i ++ t
  | 0 => ⟨[], by rw [List.append_nil]; rfl⟩
  | k + 1 => by
    obtain ⟨t, e⟩ := grow_more hP i k
    obtain ⟨u, e2⟩ := grow_pre hP (i + k)
    exact ⟨t ++ u, by rw [← Nat.add_assoc, e2, e, List.append_assoc]⟩
theorem win_app {l t : List Nat} {p n : Nat} (h : p + n ≤ l.length) : ((l ++ t).drop p).take n = (l.drop p).take n := by
  rw [List.drop_append_of_le_length (by omega), List.take_append_of_le_length (by rw [List.length_drop]; omega)]
theorem rch_fac {W : List (List Nat)} {s n : Nat} (hW : RuleW W s) (hn : n ≤ 200) {w : List Nat} (k : Rch W n (stL W s n) w) : Fac W w := by
  have hs := hW.2.2.1
  have st0 := stL_in hW hn
  induction k with
  | start =>
    obtain ⟨i, h1, h2⟩ := least_ex (n := n) hs 8 (Nat.le_trans hn (Nat.le_trans (by decide) (Nat.pow_le_pow_left hs 8)))
    refine ⟨i, 0, by rw [st0.1, (grow_ok hW i).1]; omega, ?_⟩
    rw [st0.1, List.drop_zero, stL_of h1 h2]
  | @step w u hk hu ih =>
    obtain ⟨i, p, hp, e⟩ := ih
    have hin := rch_in hW st0 hk
    obtain ⟨j, hj, hju⟩ := win_mem.mp hu
    have lu := win_len hu
    obtain ⟨g1, g2⟩ := grow_ok hW i
    have ip := img_part hW g2 p w.length hp
    rw [← e] at ip
    have il := (img_in hW hin.2).1
    refine ⟨i + 1, p * s + j, ?_, ?_⟩
    · rw [lu, (grow_ok hW (i + 1)).1, Nat.pow_succ, ← g1]
      have : p * s + w.length * s ≤ (growN W i).length * s := by rw [← Nat.add_mul]; exact Nat.mul_le_mul_right s hp
      omega
    · rw [lu, hju, ip, take_drop_part (by omega)]
      rfl
theorem fac_sub {W : List (List Nat)} {r : Nat} {w v : List Nat} (h : Fac W w) (hv : v ∈ winL r w) : Fac W v := by
  obtain ⟨i, p, hp, e⟩ := h
  obtain ⟨k, hk, hkv⟩ := win_mem.mp hv
  have lv := win_len hv
  refine ⟨i, p + k, by omega, ?_⟩
  rw [lv, hkv]
  conv => lhs; rw [e]
  exact take_drop_part hk
theorem win_up {W : List (List Nat)} {s n : Nat} (h : RuleW W s) (hn : 1 ≤ n) {w : List Nat} (hr : reachL n s ≤ w.length) (hl : ∀ c ∈ w, 97 ≤ c ∧ c < 97 + W.length) {u : List Nat} (hu : u ∈ winL n (imgL W w)) : ∃ v ∈ winL (reachL n s) w, u ∈ winL n (imgL W v) := by
  have hs := h.2.2.1
  have il := (img_in h hl).1
  have rb := reach_big hn hs
  obtain ⟨p, hp, rfl⟩ := win_mem.mp hu
  rw [il] at hp
  have h1 := Nat.div_add_mod p s
  have h2 := Nat.mod_lt p (show 0 < s by omega)
  rw [Nat.mul_comm] at h1
  obtain ⟨a, ha, ha2, ha3⟩ : ∃ a, a + reachL n s ≤ w.length ∧ a * s ≤ p ∧ p - a * s + n ≤ reachL n s * s := by
    rcases Nat.lt_or_ge (w.length - reachL n s) (p / s) with q | q
    · refine ⟨w.length - reachL n s, by omega, Nat.le_trans (Nat.mul_le_mul_right s (Nat.le_of_lt q)) (by omega), ?_⟩
      have e : (w.length - reachL n s) * s + reachL n s * s = w.length * s := by rw [← Nat.add_mul, Nat.sub_add_cancel hr]
      have : (w.length - reachL n s) * s ≤ p := Nat.le_trans (Nat.mul_le_mul_right s (Nat.le_of_lt q)) (by omega)
      omega
    · exact ⟨p / s, by omega, by omega, by omega⟩
  refine ⟨(w.drop a).take (reachL n s), win_mem.mpr ⟨a, by omega, rfl⟩, win_mem.mpr ⟨p - a * s, ?_, ?_⟩⟩
  · rw [(img_in h fun c hc => hl c (List.mem_of_mem_drop (List.mem_of_mem_take hc))).1, List.length_take, List.length_drop, Nat.min_eq_left (by omega)]
    exact ha3
  · rw [img_part h hl a (reachL n s) (by omega), take_drop_part ha3, show a * s + (p - a * s) = p by omega]
theorem fac_step {W : List (List Nat)} {s : Nat} (hP : RuleP W) (hW : RuleW W s) {u : List Nat} (hu : Fac W u) (hn : 1 ≤ u.length) : ∃ v, Fac W v ∧ v ∈ winL v.length v ∧ v.length = reachL u.length s ∧ u ∈ winL u.length (imgL W v) := by
  obtain ⟨i, p, hp, e⟩ := hu
  have hs := hW.2.2.1
  obtain ⟨t, et⟩ := grow_more hP i (u.length + 1)
  obtain ⟨g1, g2⟩ := grow_ok hW (i + u.length)
  have e2 : growN W (i + (u.length + 1)) = imgL W (growN W (i + u.length)) := rfl
  have hw : u ∈ winL u.length (imgL W (growN W (i + u.length))) := by
    rw [← e2, et]
    refine win_mem.mpr ⟨p, by rw [List.length_append]; omega, ?_⟩
    rw [win_app hp]
    exact e
  have big : reachL u.length s ≤ (growN W (i + u.length)).length := by
    rw [g1]
    have h1 : u.length < 2 ^ u.length := Nat.lt_two_pow_self
    have h2 : 2 ^ u.length ≤ s ^ (i + u.length) := Nat.le_trans (Nat.pow_le_pow_left hs _) (Nat.pow_le_pow_right (by omega) (by omega))
    have := reach_le hn hs
    omega
  obtain ⟨v, hv, huv⟩ := win_up hW hn big g2 hw
  have lv := win_len hv
  obtain ⟨k, hk, hkv⟩ := win_mem.mp hv
  refine ⟨v, ⟨i + u.length, k, by rw [lv]; exact hk, by rw [lv]; exact hkv⟩, win_mem.mpr ⟨0, by omega, by rw [List.drop_zero, List.take_length]⟩, lv, huv⟩
def bF (m s : Nat) : Nat → Nat → Nat
  | 0, n => m ^ n
  | k + 1, n => if n ≤ 2 then m ^ n else bF m s k (reachL n s) * (reachL n s * s + 1 - n)
theorem fac_in {W : List (List Nat)} {s : Nat} (hW : RuleW W s) {u : List Nat} (hu : Fac W u) : ∀ c ∈ u, 97 ≤ c ∧ c < 97 + W.length := by
  obtain ⟨i, p, _, e⟩ := hu
  intro c hc
  rw [e] at hc
  exact (grow_ok hW i).2 c (List.mem_of_mem_drop (List.mem_of_mem_take hc))
theorem fac_list {W : List (List Nat)} {s : Nat} (hP : RuleP W) (hW : RuleW W s) : ∀ k n, 1 ≤ n → ∃ L : List (List Nat), L.length ≤ bF W.length s k n ∧ ∀ u, Fac W u → u.length = n → u ∈ L
  | 0, n, _ => ⟨allW W.length n, by rw [allW_len]; exact Nat.le_refl _, fun u hu e => e ▸ allW_mem (fac_in hW hu)⟩
  | k + 1, n, hn => by
    by_cases h2 : n ≤ 2
    · refine ⟨allW W.length n, ?_, fun u hu e => e ▸ allW_mem (fac_in hW hu)⟩
      rw [allW_len, bF, if_pos h2]
      exact Nat.le_refl _
    · obtain ⟨L, hL, hm⟩ := fac_list hP hW k (reachL n s) (Nat.succ_le_succ (Nat.zero_le _))
      refine ⟨L.flatMap fun v => (winL n (imgL W v)).take (reachL n s * s + 1 - n), ?_, fun u hu e => ?_⟩
      · rw [bF, if_neg h2]
        exact Nat.le_trans (flat_le fun v _ => by rw [List.length_take]; omega) (Nat.mul_le_mul_right _ hL)
      · obtain ⟨v, fv, _, lv, huv⟩ := fac_step hP hW hu (by omega)
        rw [e] at lv huv
        refine List.mem_flatMap.mpr ⟨v, hm v fv lv, ?_⟩
        rw [List.take_of_length_le]
        · exact huv
        · rw [win_many, (img_in hW (fac_in hW fv)).1, lv]
          exact Nat.le_refl _
theorem fac_few {W : List (List Nat)} {s n : Nat} (hP : RuleP W) (hW : RuleW W s) (hn1 : 1 ≤ n) (hn : n ≤ 200) {ws : List (List Nat)} (nd : ws.Nodup) (h : ∀ w ∈ ws, Rch W n (stL W s n) w) : ws.length ≤ bF W.length s 5 n := by
  obtain ⟨L, hL, hm⟩ := fac_list hP hW 5 n hn1
  refine Nat.le_trans (nodup_len nd fun w hw => hm w (rch_fac hW hn (h w hw)) (rch_in hW (stL_in hW hn) (h w hw)).1) hL
def hnum (n s : Nat) : Bool := decide (bF 2 s 5 n * (n + 1 - reachL n s) ≤ 4000) && decide (bF 2 s 5 n ≤ 400)
theorem hand_all : ∀ n, n < 11 → hnum (6 + n) 2 = true ∧ hnum (6 + n) 3 = true := by decide
theorem hand_num {n s : Nat} (h : n < 11) (hs : s = 2 ∨ s = 3) : bF 2 s 5 (6 + n) * ((6 + n) + 1 - reachL (6 + n) s) ≤ 4000 ∧ bF 2 s 5 (6 + n) ≤ 400 := by
  have k := hand_all n h
  have k2 : hnum (6 + n) s = true := by
    rcases hs with rfl | rfl
    · exact k.1
    · exact k.2
  unfold hnum at k2
  rw [Bool.and_eq_true, decide_eq_true_eq, decide_eq_true_eq] at k2
  exact k2
/-! values of the law -/
def ValF (n s : Nat) (d : PyData) : Prop := Lite 50 20000 d ∧ ∀ ds, d = .list ds → ds.length * (n + 1 - reachL n s) ≤ 4000 ∧ ds.length ≤ 4000 ∧ ∀ f ∈ ds, (strOf f).length ≤ 20000 ∧ ∀ c ∈ strOf f, c < 0x110000
theorem valF_list {n s : Nat} {ds : List PyData} (h : ∀ d ∈ ds, Lite 20 10 d) (hl : ds.length ≤ 1000) (hb : ds.length * (n + 1 - reachL n s) ≤ 4000) : ValF n s (.list ds) :=
  ⟨(lite_lst (D := 20) (k := 10) (m := 20000) h (Nat.le_trans (Nat.mul_le_mul_right 11 hl) (by decide))).mono (by decide) (Nat.le_refl _), fun es e => by
    cases e
    exact ⟨hb, by omega, fun f hf => ⟨Nat.le_trans (lite_len (h f hf)) (by decide), lite_codes (h f hf)⟩⟩⟩
theorem valF_of {n s : Nat} {d : PyData} (h : Lite 50 20000 d) (hd : ∀ ds, d ≠ .list ds) : ValF n s d := ⟨h, fun ds e => absurd e (hd ds)⟩
def DVp (Pr : PyData → Prop) (K : PySem.W.Frag) (H : Hp) (n : Nat) (b : Addr) : Prop := ∃ xs ds, H b = some (.lst xs) ∧ DpAll K H xs ds ∧ (∀ d ∈ ds, Pr d) ∧ xs.length ≤ n
theorem DVp.same {Pr : PyData → Prop} {K : PySem.W.Frag} {H H' : Hp} {n : Nat} {b : Addr} (h : DVp Pr K H n b) (s : Same H H') : DVp Pr K H' n b := by
  obtain ⟨xs, ds, e, d, g, l⟩ := h
  exact ⟨xs, ds, s _ _ e, dpAll_same s _ _ d, g, l⟩
theorem DVp.use {Pr : PyData → Prop} {K : PySem.W.Frag} {H : Hp} {n m : Nat} {b c : Addr} {Q : VK} (hb : DVp Pr K H n b) (hc : DVp Pr K H m c) (hz : n + m ≤ 1000) (q : ∀ l H', Same H H' → H l = none → DVp Pr K H' (n + m) l → Q (.ref l) H') : rCat (.ref b) (.ref c) H Q := by
  obtain ⟨xs, ds, e, d, g, l⟩ := hb
  obtain ⟨ys, es, e', d', g', l'⟩ := hc
  refine ⟨b, c, xs, ys, rfl, rfl, e, e', by rw [sizeLine_eq]; omega, fun r hr => q r _ (Same.new hr) hr ⟨_, _, upd_same, dpAll_app (dpAll_same (Same.new hr) _ _ d) (dpAll_same (Same.new hr) _ _ d'), fun d hd => (List.mem_append.mp hd).elim (g d) (g' d), by rw [List.length_append]; omega⟩⟩
theorem fl_words {W : List (List Nat)} {n : Nat} {st : List Nat} {ws : List (List Nat)} {b : Bool} (h : b = true ↔ FlP W n st ws) : flD W n st (.list (ws.map dW)) = b := by
  have e : (ws.map dW).map strOf = ws := by rw [List.map_map]; exact List.map_id' ws
  have hs : ∀ d ∈ ws.map dW, dStr d = true := fun d hd => by
    obtain ⟨w, _, rfl⟩ := List.mem_map.mp hd
    rfl
  show flGo W n st (ws.map dW) = b
  cases b with
  | true => exact fl_yes hs (by rw [e]; exact h.mp rfl)
  | false => exact fl_no fun _ k => by rw [e] at k; exact absurd (h.mpr k) (by decide)

/-! ### words with cuts: closed lists of them -/
theorem rows_mem2 {n s : Nat} {t : List Nat} {q : WC} : q ∈ rowsW n s t ↔ ∃ k, k + n ≤ t.length ∧ q = ((t.drop k).take n, k % s) := by
  unfold rowsW
  rw [List.mem_map]
  constructor
  · rintro ⟨k, hk, rfl⟩
    exact ⟨k, by have := List.mem_range.mp hk; omega, rfl⟩
  · rintro ⟨k, hk, rfl⟩
    exact ⟨k, List.mem_range.mpr (by omega), rfl⟩
theorem rows_win {n s : Nat} {t : List Nat} {q : WC} (h : q ∈ rowsW n s t) : q.1 ∈ winL n t := rows_mem.mp ⟨q, h, rfl⟩
theorem sub_mod_mul {p a s : Nat} (h : a * s ≤ p) : (p - a * s) % s = p % s := by
  conv => rhs; rw [show p = (p - a * s) + a * s by omega, Nat.add_mul_mod_self_right]
/-- what stands in the image of a word: in the images of its parts of as many letters as a window reaches -/
theorem rows_img {W : List (List Nat)} {s n : Nat} (h : RuleW W s) (hn : 1 ≤ n) {w : List Nat} (hw : w.length = n) (hl : ∀ c ∈ w, 97 ≤ c ∧ c < 97 + W.length) (q : WC) :
    q ∈ rowsW n s (imgL W w) ↔ ∃ v ∈ winL (reachL n s) w, q ∈ rowsW n s (imgL W v) := by
  have hs := h.2.2.1
  have il := (img_in h hl).1
  have rl := reach_le hn hs
  have rb := reach_big hn hs
  rw [hw] at il
  constructor
  · intro hu
    obtain ⟨p, hp, rfl⟩ := rows_mem2.mp hu
    rw [il] at hp
    have h1 := Nat.div_add_mod p s
    have h2 := Nat.mod_lt p (show 0 < s by omega)
    rw [Nat.mul_comm] at h1
    obtain ⟨a, ha, ha2, ha3⟩ : ∃ a, a + reachL n s ≤ n ∧ a * s ≤ p ∧ p - a * s + n ≤ reachL n s * s := by
      rcases Nat.lt_or_ge (n - reachL n s) (p / s) with q | q
      · refine ⟨n - reachL n s, by omega, Nat.le_trans (Nat.mul_le_mul_right s (Nat.le_of_lt q)) (by omega), ?_⟩
        have e : (n - reachL n s) * s + reachL n s * s = n * s := by rw [← Nat.add_mul, Nat.sub_add_cancel rl]
        have : (n - reachL n s) * s ≤ p := Nat.le_trans (Nat.mul_le_mul_right s (Nat.le_of_lt q)) (by omega)
        omega
      · exact ⟨p / s, by omega, by omega, by omega⟩
    refine ⟨(w.drop a).take (reachL n s), win_mem.mpr ⟨a, by omega, rfl⟩, rows_mem2.mpr ⟨p - a * s, ?_, ?_⟩⟩
    · rw [(img_in h fun c hc => hl c (List.mem_of_mem_drop (List.mem_of_mem_take hc))).1, List.length_take, List.length_drop, Nat.min_eq_left (by omega)]
      exact ha3
    · rw [img_part h hl a (reachL n s) (by omega), take_drop_part ha3, show a * s + (p - a * s) = p by omega, sub_mod_mul ha2]
  · rintro ⟨v, hv, hu⟩
    obtain ⟨a, ha, rfl⟩ := win_mem.mp hv
    obtain ⟨p, hp, rfl⟩ := rows_mem2.mp hu
    rw [(img_in h fun c hc => hl c (List.mem_of_mem_drop (List.mem_of_mem_take hc))).1, List.length_take, List.length_drop, Nat.min_eq_left (by omega)] at hp
    rw [img_part h hl a (reachL n s) (by omega), take_drop_part hp]
    refine rows_mem2.mpr ⟨a * s + p, ?_, ?_⟩
    · rw [il]
      have e : a * s + reachL n s * s ≤ n * s := by rw [← Nat.add_mul]; exact Nat.mul_le_mul_right s (by omega)
      omega
    · rw [show (a * s + p) % s = p % s by rw [Nat.add_comm, Nat.add_mul_mod_self_right]]
/-! as data -/
def dP (p : WC) : PyData := .tuple [.str (S p.1), .int (p.2 : Int)]
def pairOf : PyData → Option WC
  | .tuple [.str z, .int k] => if 0 ≤ k then some (z.cps.toList, k.toNat) else none
  | _ => none
theorem pairOf_dP (p : WC) : pairOf (dP p) = some p := by
  show (if (0 : Int) ≤ (p.2 : Int) then some ((S p.1).cps.toList, ((p.2 : Int)).toNat) else none) = _
  rw [if_pos (by omega)]
  rfl
theorem pairOf_some {d : PyData} {p : WC} (h : pairOf d = some p) : d = dP p := by
  unfold pairOf at h
  split at h
  · rename_i z k
    by_cases hk : 0 ≤ k
    · rw [if_pos hk] at h
      obtain rfl := Option.some.inj h
      show PyData.tuple [.str z, .int k] = PyData.tuple [.str z, .int ((k.toNat : Nat) : Int)]
      rw [show ((k.toNat : Nat) : Int) = k by omega]
    · rw [if_neg hk] at h; cases h
  · cases h
theorem eqv_dP (p q : WC) : PyData.eqv (dP p) (dP q) = decide (p = q) := by
  by_cases e : p = q
  · subst e
    rw [decide_eq_true rfl]
    simp [dP, PyData.eqv, PyData.eqvAll]
  · rw [decide_eq_false e]
    have : ¬ (S p.1 = S q.1 ∧ (p.2 : Int) = (q.2 : Int)) := fun ⟨h1, h2⟩ => e (Prod.ext (SX.S_inj h1) (by omega))
    simp only [dP, PyData.eqv, PyData.eqvAll]
    simp
    intro h1 h2
    exact e (Prod.ext h1 (by omega))
def PIn (W : List (List Nat)) (s n : Nat) (p : WC) : Prop := p.1.length = n ∧ (∀ c ∈ p.1, 97 ≤ c ∧ c < 97 + W.length) ∧ p.2 < s
def ClP (W : List (List Nat)) (s n : Nat) (st : List Nat) (ps : List WC) : Prop := (∀ p ∈ ps, PIn W s n p) ∧ (∀ p ∈ ps, ∀ q ∈ rowsW n s (imgL W p.1), q ∈ ps) ∧ (st, 0) ∈ ps
open Classical in
noncomputable def rowB (W : List (List Nat)) (s n : Nat) (d : PyData) : Bool := decide (∃ p, pairOf d = some p ∧ PIn W s n p)
open Classical in
noncomputable def clGo (W : List (List Nat)) (s n : Nat) (st : List Nat) (ds : List PyData) : Bool := decide (∃ ps : List WC, ds.map pairOf = ps.map some ∧ ClP W s n st ps)
noncomputable def clD (W : List (List Nat)) (s n : Nat) (st : List Nat) : PyData → Bool
  | .list ds => clGo W s n st ds
  | _ => false
open Classical in
theorem rowB_no {W : List (List Nat)} {s n : Nat} {d : PyData} (h : ∀ p, pairOf d = some p → ¬ PIn W s n p) : rowB W s n d = false := decide_eq_false fun ⟨p, h1, h2⟩ => h p h1 h2
open Classical in
theorem row_yes {W : List (List Nat)} {s n : Nat} {d : PyData} {p : WC} (h : pairOf d = some p) (k : PIn W s n p) : rowB W s n d = true := decide_eq_true ⟨p, h, k⟩
open Classical in
theorem row_at {W : List (List Nat)} {s n : Nat} {d : PyData} (h : rowB W s n d = true) : ∃ p, d = dP p ∧ PIn W s n p := by
  obtain ⟨p, h1, h2⟩ := of_decide_eq_true h
  exact ⟨p, pairOf_some h1, h2⟩
open Classical in
theorem cl_no {W : List (List Nat)} {s n : Nat} {st : List Nat} {ds : List PyData} (h : ∀ ps : List WC, ds.map pairOf = ps.map some → ¬ ClP W s n st ps) : clGo W s n st ds = false := decide_eq_false fun ⟨ps, h1, h2⟩ => h ps h1 h2
open Classical in
theorem cl_yes {W : List (List Nat)} {s n : Nat} {st : List Nat} {ds : List PyData} {ps : List WC} (h : ds.map pairOf = ps.map some) (k : ClP W s n st ps) : clGo W s n st ds = true := decide_eq_true ⟨ps, h, k⟩
/-- a row that is none: no closed list -/
theorem cl_row {W : List (List Nat)} {s n : Nat} {st : List Nat} {ds : List PyData} {d : PyData} (hd : d ∈ ds) (h : rowB W s n d = false) : clGo W s n st ds = false := cl_no fun ps e hc => by
  obtain ⟨p, hp, e2⟩ := List.mem_map.mp (e ▸ List.mem_map_of_mem hd)
  rw [row_yes e2.symm (hc.1 p hp)] at h
  cases h
theorem map_dP_inj {ps qs : List WC} (h : (ps.map dP).map pairOf = qs.map some) : ps = qs := by
  have e : (ps.map dP).map pairOf = ps.map some := by
    rw [List.map_map]
    exact List.map_congr_left fun p _ => pairOf_dP p
  rw [e] at h
  exact (List.map_inj_right fun _ _ z => Option.some.inj z).mp h
theorem cl_dP {W : List (List Nat)} {s n : Nat} {st : List Nat} {ps : List WC} {b : Bool} (h : b = true ↔ ClP W s n st ps) : clGo W s n st (ps.map dP) = b := by
  cases b with
  | true =>
    refine cl_yes (ps := ps) ?_ (h.mp rfl)
    rw [List.map_map]
    exact List.map_congr_left fun p _ => pairOf_dP p
  | false => exact cl_no fun qs e k => by rw [← map_dP_inj e] at k; exact absurd (h.mpr k) (by decide)
theorem cl_perm {W : List (List Nat)} {s n : Nat} {st : List Nat} {ps qs : List WC} (e : ∀ p, p ∈ qs ↔ p ∈ ps) (h : ClP W s n st ps) : ClP W s n st qs :=
  ⟨fun w hw => h.1 w ((e w).mp hw), fun w hw u hu => (e u).mpr (h.2.1 w ((e w).mp hw) u hu), (e _).mpr h.2.2⟩
/-! what comes out of the first pair -/
inductive RchP (W : List (List Nat)) (s n : Nat) (st : List Nat) : WC → Prop
  | start : RchP W s n st (st, 0)
  | step {p q : WC} : RchP W s n st p → q ∈ rowsW n s (imgL W p.1) → RchP W s n st q
theorem rchP_rch {W : List (List Nat)} {s n : Nat} {st : List Nat} {p : WC} (h : RchP W s n st p) : Rch W n st p.1 := by
  induction h with
  | start => exact .start
  | step _ hq ih => exact .step ih (rows_win hq)
theorem rchP_in {W : List (List Nat)} {s n : Nat} (hW : RuleW W s) {st : List Nat} (h0 : st.length = n ∧ ∀ c ∈ st, 97 ≤ c ∧ c < 97 + W.length) {p : WC} (h : RchP W s n st p) : PIn W s n p := by
  have hs := hW.2.2.1
  obtain ⟨h1, h2⟩ := rch_in hW h0 (rchP_rch h)
  refine ⟨h1, h2, ?_⟩
  cases h with
  | start => show 0 < s; omega
  | step _ hq =>
    obtain ⟨k, _, rfl⟩ := rows_mem2.mp hq
    exact Nat.mod_lt _ (by omega)
theorem rchP_closed {W : List (List Nat)} {s n : Nat} {st : List Nat} {ps : List WC} (h : ClP W s n st ps) {p : WC} (k : RchP W s n st p) : p ∈ ps := by
  induction k with
  | start => exact h.2.2
  | step _ hu ih => exact h.2.1 _ ih _ hu
theorem rchP_cl {W : List (List Nat)} {s n : Nat} (hW : RuleW W s) {st : List Nat} (h0 : st.length = n ∧ ∀ c ∈ st, 97 ≤ c ∧ c < 97 + W.length) {ps : List WC} (hw : ∀ p, p ∈ ps ↔ RchP W s n st p) : ClP W s n st ps :=
  ⟨fun p hm => rchP_in hW h0 ((hw p).mp hm), fun p hm q hq => (hw q).mpr (.step ((hw p).mp hm) hq), (hw _).mpr .start⟩
/-- a row less: no closed list -/
theorem cl_less {W : List (List Nat)} {s n : Nat} {st : List Nat} {qs : List WC} {p : WC} (hp : RchP W s n st p) (hn : p ∉ qs) : ¬ ClP W s n st qs := fun h => hn (rchP_closed h hp)
theorem rchP_few {W : List (List Nat)} {s n : Nat} (hW : RuleW W s) (hn1 : 1 ≤ n) (hn : n ≤ 200) {ps : List WC} (nd : ps.Nodup) (h : ∀ p ∈ ps, RchP W s n (stL W s n) p) : ps.length ≤ W.length ^ reachL n s * (2 * s) + 1 := by
  have st0 := stL_in hW hn
  have hs := hW.2.2.1
  have key : ∀ k, ∀ v ∈ allW W.length k, v.length = k ∧ ∀ c ∈ v, 97 ≤ c ∧ c < 97 + W.length := fun k => by
    induction k with
    | zero => intro v hv; rw [List.mem_singleton.mp hv]; exact ⟨rfl, fun c hc => nomatch hc⟩
    | succ k ih =>
      intro v hv
      obtain ⟨u, hu, hv⟩ := List.mem_flatMap.mp hv
      obtain ⟨j, hj, rfl⟩ := List.mem_map.mp hv
      obtain ⟨a, b⟩ := ih u hu
      refine ⟨by rw [List.length_cons, a], fun c hc => ?_⟩
      rcases List.mem_cons.mp hc with rfl | h
      · have := List.mem_range.mp hj; omega
      · exact b c h
  have e : ((stL W s n, 0) :: (allW W.length (reachL n s)).flatMap fun v => rowsW n s (imgL W v)).length ≤ W.length ^ reachL n s * (2 * s) + 1 := by
    rw [List.length_cons, ← allW_len]
    refine Nat.succ_le_succ (flat_le fun v hv => ?_)
    have hv2 := key _ v hv
    rw [rows_len, (img_in hW hv2.2).1, hv2.1]
    have h1 := Nat.div_add_mod (n + s - 2) s
    unfold reachL
    rw [Nat.add_mul, Nat.one_mul, Nat.mul_comm]
    omega
  refine Nat.le_trans (nodup_len nd fun w hw => ?_) e
  have hr := h w hw
  cases hr with
  | start => exact List.mem_cons_self
  | step hw' hu =>
    have hin := rchP_in hW st0 hw'
    obtain ⟨v, hv, hu⟩ := (rows_img hW hn1 hin.1 hin.2.1 _).mp hu
    refine List.mem_cons_of_mem _ (List.mem_flatMap.mpr ⟨v, ?_, hu⟩)
    rw [← win_len hv]
    exact allW_mem fun c hc => hin.2.1 c (win_sub hv c hc)
theorem facP_few {W : List (List Nat)} {s n : Nat} (hP : RuleP W) (hW : RuleW W s) (hn1 : 3 ≤ n) (hn : n ≤ 200) {ps : List WC} (nd : ps.Nodup) (h : ∀ p ∈ ps, RchP W s n (stL W s n) p) : ps.length ≤ bF W.length s 5 n + 1 := by
  have st0 := stL_in hW hn
  obtain ⟨L, hL, hm⟩ := fac_list hP hW 4 (reachL n s) (Nat.succ_le_succ (Nat.zero_le _))
  have e : ((stL W s n, 0) :: L.flatMap fun v => (rowsW n s (imgL W v)).take (reachL n s * s + 1 - n)).length ≤ bF W.length s 5 n + 1 := by
    rw [List.length_cons, bF, if_neg (by omega)]
    exact Nat.succ_le_succ (Nat.le_trans (flat_le fun v _ => by rw [List.length_take]; omega) (Nat.mul_le_mul_right _ hL))
  refine Nat.le_trans (nodup_len nd fun w hw => ?_) e
  have hr := h w hw
  cases hr with
  | start => exact List.mem_cons_self
  | @step p _ hp hu =>
    have hin := rchP_in hW st0 hp
    obtain ⟨v, hv, hu⟩ := (rows_img hW (by omega) hin.1 hin.2.1 _).mp hu
    have fv := fac_sub (rch_fac hW hn (rchP_rch hp)) hv
    refine List.mem_cons_of_mem _ (List.mem_flatMap.mpr ⟨v, hm v fv (win_len hv), ?_⟩)
    rw [List.take_of_length_le]
    · exact hu
    · rw [rows_len, (img_in hW (fac_in hW fv)).1, win_len hv]
      exact Nat.le_refl _
def hnumP (n s : Nat) : Bool := decide ((bF 2 s 5 n + 1) * (n + 1 - reachL n s) ≤ 4000) && decide (bF 2 s 5 n + 1 ≤ 401)
theorem handP_all : ∀ n, n < 12 → hnumP (5 + n) 2 = true ∧ hnumP (5 + n) 3 = true := by decide
theorem handP_num {n s : Nat} (h : n < 12) (hs : s = 2 ∨ s = 3) : (bF 2 s 5 (5 + n) + 1) * ((5 + n) + 1 - reachL (5 + n) s) ≤ 4000 ∧ bF 2 s 5 (5 + n) + 1 ≤ 401 := by
  have k := handP_all n h
  have k2 : hnumP (5 + n) s = true := by
    rcases hs with rfl | rfl
    · exact k.1
    · exact k.2
  unfold hnumP at k2
  rw [Bool.and_eq_true, decide_eq_true_eq, decide_eq_true_eq] at k2
  exact k2
/-! rows on the heap -/
def RwAt (H : Hp) (x : V) (d : PyData) : Prop := ∀ p, pairOf d = some p → ∃ t, x = .ref t ∧ H t = some (.tup [.str (S p.1), .int (p.2 : Int)])
inductive RowsD (K : PySem.W.Frag) (H : Hp) : List V → List PyData → Prop
  | nil : RowsD K H [] []
  | cons {x : V} {d : PyData} {xs : List V} {ds : List PyData} : Dp K H x d → RwAt H x d → RowsD K H xs ds → RowsD K H (x :: xs) (d :: ds)
theorem RwAt.same {H H' : Hp} {x : V} {d : PyData} (h : RwAt H x d) (s : Same H H') : RwAt H' x d := fun p e => by
  obtain ⟨t, e1, e2⟩ := h p e
  exact ⟨t, e1, s _ _ e2⟩
theorem RowsD.same {K : PySem.W.Frag} {H H' : Hp} {xs : List V} {ds : List PyData} (h : RowsD K H xs ds) (s : Same H H') : RowsD K H' xs ds := by
  induction h with
  | nil => exact .nil
  | cons h1 h2 _ ih => exact .cons (dp_same s _ _ h1) (h2.same s) ih
theorem RowsD.dp {K : PySem.W.Frag} {H : Hp} {xs : List V} {ds : List PyData} (h : RowsD K H xs ds) : DpAll K H xs ds := by
  induction h with
  | nil => exact .nil
  | cons h1 _ _ ih => exact .cons h1 ih
theorem RowsD.app {K : PySem.W.Frag} {H : Hp} {xs ys : List V} {ds es : List PyData} (h : RowsD K H xs ds) (k : RowsD K H ys es) : RowsD K H (xs ++ ys) (ds ++ es) := by
  induction h with
  | nil => exact k
  | cons h1 h2 _ ih => exact .cons h1 h2 ih
theorem RowsD.at {K : PySem.W.Frag} {H : Hp} {xs : List V} {ds : List PyData} (h : RowsD K H xs ds) : ∀ {i : Nat} {x : V}, xs[i]? = some x → ∃ d, ds[i]? = some d ∧ Dp K H x d ∧ RwAt H x d := by
  induction h with
  | nil => intro i x e; cases e
  | cons h1 h2 _ ih =>
    intro i x e
    cases i with
    | zero => exact ⟨_, rfl, Option.some.inj e ▸ h1, Option.some.inj e ▸ h2⟩
    | succ i => exact ih e
theorem RowsD.len {K : PySem.W.Frag} {H : Hp} {xs : List V} {ds : List PyData} (h : RowsD K H xs ds) : xs.length = ds.length := dpAll_len h.dp
theorem rowsZ {K : PySem.W.Frag} {H : Hp} : ∀ {zs : List (Addr × WC)}, AtZ H zs → RowsD K H (zs.map vZ) (zs.map fun z => dP z.2)
  | [], _ => .nil
  | z :: r, h => by
    have hz := h z List.mem_cons_self
    refine .cons (.tup (SqT.of hz) (.cons (.str _) (.cons (.int _) .nil))) (fun p e => ?_) (rowsZ fun x hx => h x (List.mem_cons_of_mem _ hx))
    rw [show pairOf (dP z.2) = some z.2 from pairOf_dP _] at e
    obtain rfl := Option.some.inj e
    exact ⟨_, rfl, hz⟩
theorem dataZ (zs : List (Addr × WC)) : (zs.map fun z => dP z.2) = (zs.map (·.2)).map dP := by rw [List.map_map]; rfl
/-- fine rows -/
def RowFine (m : Nat) (d : PyData) : Prop := ∀ gs, d = .tuple gs → ∀ g ∈ gs, (strOf g).length ≤ m ∧ ∀ c ∈ strOf g, c < 0x110000
def CV (K : PySem.W.Frag) (H : Hp) (x : V) (d : PyData) : Prop := Dp K H x d ∧ ∀ ds, d = .list ds → ∃ b ys, x = .ref b ∧ SqL K H b ys ∧ RowsD K H ys ds
theorem CV.same {K : PySem.W.Frag} {H H' : Hp} {x : V} {d : PyData} (h : CV K H x d) (s : Same H H') : CV K H' x d :=
  ⟨dp_same s _ _ h.1, fun ds e => by
    obtain ⟨b, ys, h1, h2, h3⟩ := h.2 ds e
    exact ⟨b, ys, h1, same_lst s h2, h3.same s⟩⟩
/-! the keys of a dict, with their places -/
theorem keys_zs {H : Hp} : ∀ {fk : List WC} {bs : List Addr}, IsKeys H (kvWC fk) bs → ∃ zs : List (Addr × WC), bs = zs.map (·.1) ∧ zs.map (·.2) = fk ∧ AtZ H zs
  | [], bs, h => by
    cases h
    exact ⟨[], rfl, rfl, fun _ h => (nomatch h)⟩
  | q :: r, bs, h => by
    unfold IsKeys at h
    have e : kvWC (q :: r) = (keyWC q, V.bl true) :: kvWC r := rfl
    rw [e] at h
    cases h with
    | @cons a b as bs' h1 h2 =>
      obtain ⟨zs, rfl, ez, az⟩ := keys_zs (show IsKeys H (kvWC r) bs' from h2)
      refine ⟨(b, q) :: zs, rfl, by rw [List.map_cons, ez], fun z hz => ?_⟩
      rcases List.mem_cons.mp hz with rfl | hz
      · exact h1
      · exact az z hz
theorem keyZ {H : Hp} {zs : List (Addr × WC)} (h : AtZ H zs) : ∃ key : V → WC, ∀ z ∈ zs, key (.ref z.1) = z.2 := by
  have tot : ∀ x : V, ∃ p : WC, ∀ z ∈ zs, x = .ref z.1 → p = z.2 := fun x => by
    by_cases hx : ∃ z ∈ zs, x = .ref z.1
    · obtain ⟨z, hz, rfl⟩ := hx
      refine ⟨z.2, fun y hy e => ?_⟩
      have h1 := h z hz
      rw [V.ref.inj e, h y hy] at h1
      exact (tupWC_inj (Option.some.inj h1)).symm
    · exact ⟨([], 0), fun z hz e => absurd ⟨z, hz, e⟩ hx⟩
  obtain ⟨key, hk⟩ := Classical.axiomOfChoice tot
  exact ⟨key, fun z hz => hk _ z hz rfl⟩
theorem perm_map {α β : Type} {f : α → β} {ys : List β} : ∀ {xs : List α}, ys.Perm (xs.map f) → ∃ us : List α, ys = us.map f ∧ us.Perm xs := by
  intro xs h
  generalize e : xs.map f = zs at h
  induction h generalizing xs with
  | nil => exact ⟨[], rfl, by rw [List.map_eq_nil_iff.mp e]⟩
  | @cons b l1 l2 _ ih =>
    cases xs with
    | nil => cases e
    | cons x r =>
      rw [List.map_cons] at e
      obtain ⟨rfl, e2⟩ := List.cons.inj e
      obtain ⟨us, rfl, hp⟩ := ih e2
      exact ⟨x :: us, rfl, hp.cons x⟩
  | swap b c l =>
    cases xs with
    | nil => cases e
    | cons x r =>
      cases r with
      | nil => rw [List.map_cons] at e; exact absurd (List.cons.inj e).2 (by simp)
      | cons y r =>
        rw [List.map_cons, List.map_cons] at e
        obtain ⟨rfl, e2⟩ := List.cons.inj e
        obtain ⟨rfl, rfl⟩ := List.cons.inj e2
        exact ⟨y :: x :: r, rfl, List.Perm.swap _ _ _⟩
  | trans _ _ ih1 ih2 =>
    obtain ⟨us, rfl, hp⟩ := ih2 e
    obtain ⟨vs, rfl, hq⟩ := ih1 rfl
    exact ⟨vs, rfl, hq.trans hp⟩
theorem put_wc_old {ps : List WC} {p : WC} (h : p ∈ ps) : putK (kvWC ps) (keyWC p) (.bl true) = kvWC ps := by
  unfold putK
  rw [if_pos]
  · unfold kvWC
    rw [List.map_map]
    refine List.map_congr_left fun q _ => ?_
    show (if keyWC q = keyWC p then (keyWC q, V.bl true) else (keyWC q, V.bl true)) = _
    split <;> rfl
  · exact List.any_eq_true.mpr ⟨_, List.mem_map_of_mem h, decide_eq_true rfl⟩
theorem shapedP {p : WC} (h : ∀ c ∈ p.1, c < 0x110000) : SeqAt.shaped (dP p) = true := by
  obtain ⟨a, b⟩ := layZ (zs := [(0, p)]) fun z hz c hc => by rw [List.mem_singleton.mp hz] at hc; exact h c hc
  have e : ([(0, p)] : List (Addr × WC)).map dZ = [dP p] := rfl
  rw [e] at a b
  show (PyData.canLay0 (dP p) && decide (PyData.depth (dP p) ≤ 64)) = true
  rw [Bool.and_eq_true]
  refine ⟨?_, decide_eq_true ?_⟩
  · simp only [PyData.canLayAll0, Bool.and_eq_true] at a
    exact a.1
  · simp only [PyData.depthAll] at b
    omega
theorem in_dP (p : WC) (zs : List (Addr × WC)) : ((zs.map dZ).any fun z => PyData.eqv z (dP p)) = decide (p ∈ zs.map (·.2)) := by
  induction zs with
  | nil => rfl
  | cons z r ih =>
    rw [List.map_cons, List.any_cons, ih, show PyData.eqv (dZ z) (dP p) = decide (z.2 = p) from eqv_dP z.2 p, List.map_cons]
    by_cases e : z.2 = p
    · rw [decide_eq_true e, Bool.true_or, decide_eq_true (e ▸ List.mem_cons_self)]
    · rw [decide_eq_false e, Bool.false_or]
      exact decide_eq_decide.mpr ⟨fun h => List.mem_cons_of_mem _ h, fun h => (List.mem_cons.mp h).elim (fun h => absurd h.symm e) id⟩
theorem AtZ.app {H : Hp} {zs us : List (Addr × WC)} (h : AtZ H zs) (k : AtZ H us) : AtZ H (zs ++ us) := fun z hz => (List.mem_append.mp hz).elim (h z) (k z)
theorem codeP {W : List (List Nat)} {s n : Nat} {p : WC} (hw4 : W.length ≤ 4) (h : PIn W s n p) : ∀ c ∈ p.1, c < 0x110000 := fun c hc => by have := h.2.1 c hc; omega
theorem op_notInDK {X : Cx} {K : PySem.W.Frag} (hu : X.A.units + 65 < cLine) (h : X.K = K := by rfl) : OpR X (compareOp .NotIn) (rNotInD K) := h ▸ op_notInD hu
theorem op_inDK {X : Cx} {K : PySem.W.Frag} (hu : X.A.units + 65 < cLine) (h : X.K = K := by rfl) : OpR X (compareOp .In) (rInD K) := h ▸ op_inD hu
/-! the values of the law -/
def OkRow (d : PyData) : Prop := Lite 21 60 d ∧ RowFine 20000 d
theorem okRow_tup {gs : List PyData} (h : ∀ g ∈ gs, Lite 20 19 g) (hn : gs.length ≤ 3) : OkRow (.tuple gs) :=
  ⟨lite_tup (D := 20) (k := 19) h (Nat.mul_le_mul_right 20 hn), fun es e g hg => by
    cases e
    exact ⟨Nat.le_trans (lite_len (h g hg)) (by decide), lite_codes (h g hg)⟩⟩
theorem okRow_of {d : PyData} (h : Lite 21 60 d) (k : ∀ gs, d ≠ .tuple gs) : OkRow d := ⟨h, fun gs e => absurd e (k gs)⟩
theorem small_int : ∀ c : Nat, c < 5 → liteB 20 19 (.int (c : Int)) = true := by decide
theorem small_txt : ∀ c : Nat, c < 5 → liteB 20 19 (.str (toString (c : Int))) = true := by decide +kernel
theorem okRow_dP {W : List (List Nat)} {s n : Nat} {p : WC} (hw4 : W.length ≤ 4) (hs4 : s ≤ 4) (hn : n ≤ 16) (h : PIn W s n p) : OkRow (dP p) :=
  okRow_tup (fun g hg => by
    simp only [List.mem_cons, List.not_mem_nil, or_false] at hg
    rcases hg with rfl | rfl
    · exact lite_str (by have := h.1; omega) (codeP hw4 h)
    · exact lite_of (small_int p.2 (by have := h.2.2; omega))) (by show 2 ≤ 3; decide)
def ValC (n s : Nat) (d : PyData) : Prop := Lite 50 100000 d ∧ ∀ ds, d = .list ds → ds.length * (n + 1 - reachL n s) ≤ 4000 ∧ ds.length ≤ 4000 ∧ ∀ f ∈ ds, RowFine 20000 f
theorem valC_rows {n s : Nat} {ds : List PyData} (h : ∀ d ∈ ds, OkRow d) (hl : ds.length ≤ 1000) (hb : ds.length * (n + 1 - reachL n s) ≤ 4000) : ValC n s (.list ds) :=
  ⟨(lite_lst (D := 21) (k := 60) (m := 100000) (fun d hd => (h d hd).1) (Nat.le_trans (Nat.mul_le_mul_right 61 hl) (by decide))).mono (by decide) (Nat.le_refl _), fun es e => by
    cases e
    exact ⟨hb, by omega, fun f hf => (h f hf).2⟩⟩
theorem valC_of {n s : Nat} {d : PyData} (h : Lite 50 100000 d) (hd : ∀ ds, d ≠ .list ds) : ValC n s d := ⟨h, fun ds e => absurd e (hd ds)⟩
inductive CVAll (K : PySem.W.Frag) (H : Hp) : List V → List PyData → Prop
  | nil : CVAll K H [] []
  | cons {x : V} {d : PyData} {xs : List V} {ds : List PyData} : CV K H x d → CVAll K H xs ds → CVAll K H (x :: xs) (d :: ds)
theorem CVAll.same {K : PySem.W.Frag} {H H' : Hp} {xs : List V} {ds : List PyData} (h : CVAll K H xs ds) (s : Same H H') : CVAll K H' xs ds := by
  induction h with
  | nil => exact .nil
  | cons h1 _ ih => exact .cons (h1.same s) ih
theorem CVAll.app {K : PySem.W.Frag} {H : Hp} {xs ys : List V} {ds es : List PyData} (h : CVAll K H xs ds) (k : CVAll K H ys es) : CVAll K H (xs ++ ys) (ds ++ es) := by
  induction h with
  | nil => exact k
  | cons h1 _ ih => exact .cons h1 ih
theorem CVAll.at {K : PySem.W.Frag} {H : Hp} {xs : List V} {ds : List PyData} (h : CVAll K H xs ds) : ∀ {i : Nat} {x : V}, xs[i]? = some x → ∃ d, ds[i]? = some d ∧ CV K H x d := by
  induction h with
  | nil => intro i x e; cases e
  | cons h1 _ ih =>
    intro i x e
    cases i with
    | zero => exact ⟨_, rfl, Option.some.inj e ▸ h1⟩
    | succ i => exact ih e
theorem cv_rows {K : PySem.W.Frag} {H : Hp} {b : Addr} {ys : List V} {ds : List PyData} (e : H b = some (.lst ys)) (h : RowsD K H ys ds) : CV K H (.ref b) (.list ds) :=
  ⟨.lst (SqL.of e) h.dp, fun es q => by
    cases q
    exact ⟨b, ys, rfl, SqL.of e, h⟩⟩
theorem cv_of {K : PySem.W.Frag} {H : Hp} {x : V} {d : PyData} (h : Dp K H x d) (n : ∀ ds, d ≠ .list ds) : CV K H x d := ⟨h, fun ds e => absurd e (n ds)⟩
theorem RowsD.one {K : PySem.W.Frag} {H : Hp} {x : V} {d : PyData} (h : Dp K H x d ∧ RwAt H x d) : RowsD K H [x] [d] := .cons h.1 h.2 .nil
theorem RowsD.con {K : PySem.W.Frag} {H : Hp} {x : V} {d : PyData} {xs : List V} {ds : List PyData} (h : Dp K H x d ∧ RwAt H x d) (k : RowsD K H xs ds) : RowsD K H (x :: xs) (d :: ds) := .cons h.1 h.2 k
theorem row_tup {K : PySem.W.Frag} {H : Hp} {l : Addr} {vs : List V} {gs : List PyData} (e : H l = some (.tup vs)) (h : DpAll K H vs gs) : Dp K H (.ref l) (.tuple gs) ∧ RwAt H (.ref l) (.tuple gs) := by
  refine ⟨.tup (SqT.of e) h, fun p q => ⟨l, rfl, ?_⟩⟩
  have e2 := PyData.tuple.inj (pairOf_some q)
  subst e2
  cases h with
  | cons h1 h2 => cases h2 with
    | cons h3 h4 =>
      cases h4
      cases h1
      cases h3
      exact e
theorem row_no {K : PySem.W.Frag} {H : Hp} {x : V} {d : PyData} (h : Dp K H x d) (n : ∀ gs, d ≠ .tuple gs) : Dp K H x d ∧ RwAt H x d := ⟨h, fun p q => absurd (pairOf_some q) (n _)⟩
theorem rowsW_d {K : PySem.W.Frag} {H : Hp} : ∀ ws : List (List Nat), RowsD K H (ws.map vW) (ws.map dW)
  | [] => .nil
  | w :: r => .con (row_no (.str _) fun _ e => nomatch e) (rowsW_d r)
theorem Pen.offZ {H : Hp} {p c : Addr} {n : Nat} {zs : List (Addr × WC)} (P : Pen H p c n) (h : AtZ H zs) : AtZ (off p H) zs := fun z hz => by
  obtain ⟨ns, i, w, ⟨a1, _⟩, _⟩ := P
  exact off_at (ne_of (h z hz) a1 fun e => by cases e) (h z hz)
theorem Pen.offTup {H : Hp} {p c b : Addr} {n : Nat} {xs : List V} (P : Pen H p c n) (h : H b = some (.tup xs)) : off p H b = some (.tup xs) := by
  obtain ⟨ns, i, w, ⟨a1, _⟩, _⟩ := P
  exact off_at (ne_of h a1 fun e => by cases e) h

/-! ### the text by places -/
def topS (i : Nat) : Stmt := PySem.Challenge.pw_surepatterns_k25_closed_lists_of_cuts.main.body.getD i (.Pass ⟨0, 0, 0, 0⟩)
abbrev s_is_integer : Stmt := topS 4
theorem sc_is_integer : FnScope ["value"] ["value"] (defScope s_is_integer) := ⟨rfl, rfl, rfl, by decide +kernel, rfl, by decide +kernel, by decide +kernel⟩
abbrev s_is_integer_from : Stmt := topS 5
theorem sc_is_integer_from : FnScope ["value", "low", "high"] ["value", "low", "high"] (defScope s_is_integer_from) := ⟨rfl, rfl, rfl, by decide +kernel, rfl, by decide +kernel, by decide +kernel⟩
abbrev s_need_integer : Stmt := topS 6
theorem sc_need_integer : FnScope ["value", "low", "high"] ["value", "low", "high"] (defScope s_need_integer) := ⟨rfl, rfl, rfl, by decide +kernel, rfl, by decide +kernel, by decide +kernel⟩
abbrev s_has_only : Stmt := topS 9
theorem sc_has_only : FnScope ["text", "letters", "character"] ["text", "letters"] (defScope s_has_only) := ⟨rfl, rfl, rfl, by decide +kernel, rfl, by decide +kernel, by decide +kernel⟩
abbrev s_is_word : Stmt := topS 12
theorem sc_is_word : FnScope ["value"] ["value"] (defScope s_is_word) := ⟨rfl, rfl, rfl, by decide +kernel, rfl, by decide +kernel, by decide +kernel⟩
abbrev s_is_rule : Stmt := topS 21
theorem sc_is_rule : FnScope ["value", "word", "sizes"] ["value"] (defScope s_is_rule) := ⟨rfl, rfl, rfl, by decide +kernel, rfl, by decide +kernel, by decide +kernel⟩
abbrev s_need_rule : Stmt := topS 23
theorem sc_need_rule : FnScope ["value"] ["value"] (defScope s_need_rule) := ⟨rfl, rfl, rfl, by decide +kernel, rfl, by decide +kernel, by decide +kernel⟩
abbrev s_image : Stmt := topS 25
theorem sc_image : FnScope ["rule", "word", "letter"] ["rule", "word"] (defScope s_image) := ⟨rfl, rfl, rfl, by decide +kernel, rfl, by decide +kernel, by decide +kernel⟩
abbrev s_start_of : Stmt := topS 26
theorem sc_start_of : FnScope ["rule", "length", "start"] ["rule", "length"] (defScope s_start_of) := ⟨rfl, rfl, rfl, by decide +kernel, rfl, by decide +kernel, by decide +kernel⟩
abbrev s_rule_start : Stmt := topS 22
theorem sc_rule_start : FnScope ["rule", "length"] ["rule", "length"] (defScope s_rule_start) := ⟨rfl, rfl, rfl, by decide +kernel, rfl, by decide +kernel, by decide +kernel⟩
abbrev s_standing_in_images : Stmt := topS 28
theorem sc_standing_in_images : FnScope ["rule", "words", "length", "size", "reached", "parts", "texts", "word", "at", "part", "text"] ["rule", "words", "length"] (defScope s_standing_in_images) := ⟨rfl, rfl, rfl, by decide +kernel, rfl, by decide +kernel, by decide +kernel⟩
abbrev s_is_rule_word : Stmt := topS 24
theorem sc_is_rule_word : FnScope ["rule", "value"] ["rule", "value"] (defScope s_is_rule_word) := ⟨rfl, rfl, rfl, by decide +kernel, rfl, by decide +kernel, by decide +kernel⟩
abbrev s_is_cut_row : Stmt := topS 32
theorem sc_is_cut_row : FnScope ["rule", "length", "value", "is_word"] ["rule", "length", "value"] (defScope s_is_cut_row) := ⟨rfl, rfl, rfl, by decide +kernel, rfl, by decide +kernel, by decide +kernel⟩
abbrev s_is_cut_list : Stmt := topS 31
theorem sc_is_cut_list : FnScope ["rule", "length", "value", "rows", "words", "row"] ["rule", "length", "value"] (defScope s_is_cut_list) := ⟨rfl, rfl, rfl, by decide +kernel, rfl, by decide +kernel, by decide +kernel⟩
abbrev s_law_open : Stmt := topS 35
theorem sc_law_open : FnScope ["script", "cells", "k", "cell"] ["script"] (defScope s_law_open) := ⟨rfl, rfl, rfl, by decide +kernel, rfl, by decide +kernel, by decide +kernel⟩
abbrev s_law_anew : Stmt := topS 36
theorem sc_law_anew : FnScope ["pen"] ["pen"] (defScope s_law_anew) := ⟨rfl, rfl, rfl, by decide +kernel, rfl, by decide +kernel, by decide +kernel⟩
abbrev s_law_spread : Stmt := topS 34
theorem sc_law_spread : FnScope ["cell", "at", "primes", "mixed", "one", "rest", "two", "three"] ["cell", "at"] (defScope s_law_spread) := ⟨rfl, rfl, rfl, by decide +kernel, rfl, by decide +kernel, by decide +kernel⟩
abbrev s_law_take : Stmt := topS 37
theorem sc_law_take : FnScope ["pen", "many", "at", "cell", "found"] ["pen", "many"] (defScope s_law_take) := ⟨rfl, rfl, rfl, by decide +kernel, rfl, by decide +kernel, by decide +kernel⟩
abbrev s_law_one : Stmt := topS 38
theorem sc_law_one : FnScope ["pen", "some"] ["pen", "some"] (defScope s_law_one) := ⟨rfl, rfl, rfl, by decide +kernel, rfl, by decide +kernel, by decide +kernel⟩
abbrev s_law_power : Stmt := topS 39
theorem sc_law_power : FnScope ["base", "number", "found", "step"] ["base", "number"] (defScope s_law_power) := ⟨rfl, rfl, rfl, by decide +kernel, rfl, by decide +kernel, by decide +kernel⟩
abbrev s_law_word_of : Stmt := topS 40
theorem sc_law_word_of : FnScope ["number", "many", "length", "found", "step"] ["number", "many", "length"] (defScope s_law_word_of) := ⟨rfl, rfl, rfl, by decide +kernel, rfl, by decide +kernel, by decide +kernel⟩
abbrev s_law_rule : Stmt := topS 41
theorem sc_law_rule : FnScope ["pen", "some", "many", "size", "found", "step", "number"] ["pen"] (defScope s_law_rule) := ⟨rfl, rfl, rfl, by decide +kernel, rfl, by decide +kernel, by decide +kernel⟩
abbrev s_law_image : Stmt := topS 42
theorem sc_law_image : FnScope ["rule", "word", "letter"] ["rule", "word"] (defScope s_law_image) := ⟨rfl, rfl, rfl, by decide +kernel, rfl, by decide +kernel, by decide +kernel⟩
abbrev s_law_start : Stmt := topS 43
theorem sc_law_start : FnScope ["rule", "length", "found"] ["rule", "length"] (defScope s_law_start) := ⟨rfl, rfl, rfl, by decide +kernel, rfl, by decide +kernel, by decide +kernel⟩
abbrev s_law_text : Stmt := topS 45
theorem sc_law_text : FnScope ["pen", "rule", "most", "step"] ["pen", "rule", "most"] (defScope s_law_text) := ⟨rfl, rfl, rfl, by decide +kernel, rfl, by decide +kernel, by decide +kernel⟩
abbrev s_law_parts : Stmt := topS 46
theorem sc_law_parts : FnScope ["word", "length", "k"] ["word", "length"] (defScope s_law_parts) := ⟨rfl, rfl, rfl, by decide +kernel, rfl, by decide +kernel, by decide +kernel⟩
abbrev s_law_pairs : Stmt := topS 47
theorem sc_law_pairs : FnScope ["rule", "length", "first", "found", "due", "at", "part", "pair"] ["rule", "length"] (defScope s_law_pairs) := ⟨rfl, rfl, rfl, by decide +kernel, rfl, by decide +kernel, by decide +kernel⟩
abbrev s_law_led : Stmt := topS 48
theorem sc_law_led : FnScope ["rule", "word", "length", "parts", "at", "part"] ["rule", "word", "length"] (defScope s_law_led) := ⟨rfl, rfl, rfl, by decide +kernel, rfl, by decide +kernel, by decide +kernel⟩
abbrev s_law_is_closed_list : Stmt := topS 49
theorem sc_law_is_closed_list : FnScope ["rule", "length", "value", "pair", "word", "cut", "letter", "led"] ["rule", "length", "value"] (defScope s_law_is_closed_list) := ⟨rfl, rfl, rfl, by decide +kernel, rfl, by decide +kernel, by decide +kernel⟩
abbrev s_law_wider : Stmt := topS 50
theorem sc_law_wider : FnScope ["rule", "length", "pairs", "most", "found", "k", "led"] ["rule", "length", "pairs", "most"] (defScope s_law_wider) := ⟨rfl, rfl, rfl, by decide +kernel, rfl, by decide +kernel, by decide +kernel⟩
abbrev s_law : Stmt := topS 51
theorem sc_law : FnScope ["script", "pen", "turn", "rule", "length", "good", "size", "at", "text", "word", "cut", "odd", "some", "value", "kept", "due", "told", "k", "one", "own"] ["script"] (defScope s_law) := ⟨rfl, rfl, rfl, by decide +kernel, rfl, by decide +kernel, by decide +kernel⟩
structure Ad where
  (f_is_integer : Addr) (d_is_integer : FuncData)
  (f_is_integer_from : Addr) (d_is_integer_from : FuncData)
  (f_need_integer : Addr) (d_need_integer : FuncData)
  (f_has_only : Addr) (d_has_only : FuncData)
  (f_is_word : Addr) (d_is_word : FuncData)
  (f_is_rule : Addr) (d_is_rule : FuncData)
  (f_need_rule : Addr) (d_need_rule : FuncData)
  (f_image : Addr) (d_image : FuncData)
  (f_start_of : Addr) (d_start_of : FuncData)
  (f_rule_start : Addr) (d_rule_start : FuncData)
  (f_standing_in_images : Addr) (d_standing_in_images : FuncData)
  (f_is_rule_word : Addr) (d_is_rule_word : FuncData)
  (f_is_cut_row : Addr) (d_is_cut_row : FuncData)
  (f_is_cut_list : Addr) (d_is_cut_list : FuncData)
  (f_law_open : Addr) (d_law_open : FuncData)
  (f_law_anew : Addr) (d_law_anew : FuncData)
  (f_law_spread : Addr) (d_law_spread : FuncData)
  (f_law_take : Addr) (d_law_take : FuncData)
  (f_law_one : Addr) (d_law_one : FuncData)
  (f_law_power : Addr) (d_law_power : FuncData)
  (f_law_word_of : Addr) (d_law_word_of : FuncData)
  (f_law_rule : Addr) (d_law_rule : FuncData)
  (f_law_image : Addr) (d_law_image : FuncData)
  (f_law_start : Addr) (d_law_start : FuncData)
  (f_law_text : Addr) (d_law_text : FuncData)
  (f_law_parts : Addr) (d_law_parts : FuncData)
  (f_law_pairs : Addr) (d_law_pairs : FuncData)
  (f_law_led : Addr) (d_law_led : FuncData)
  (f_law_is_closed_list : Addr) (d_law_is_closed_list : FuncData)
  (f_law_wider : Addr) (d_law_wider : FuncData)
  (f_law : Addr) (d_law : FuncData)
  (t_FEWEST_WORDS : Tok)
  (t_LONGEST : Tok)
  (t_LONGEST_LISTED : Tok)
  (t_LONGEST_START : Tok)
  (t_LONGEST_WORD : Tok)
  (t_MOST_WORDS : Tok)
  (t_SHORTEST : Tok)
  (t_SMALL : Tok)
  (c_InvalidNumber : Addr)
  (c_InvalidRule : Addr)
  (c_PatternError : Addr)
/-- what the top has written -/
structure Txt (K : PySem.W.Frag) (mg : Str → Option Value) (A : Ad) : Prop where
  F_is_integer : Fun K "is_integer" "is_integer" s_is_integer A.f_is_integer A.d_is_integer
  g_is_integer : mg "is_integer" = some (.ref A.f_is_integer)
  b_is_integer : Binds K A.d_is_integer ["value"] []
  F_is_integer_from : Fun K "is_integer_from" "is_integer_from" s_is_integer_from A.f_is_integer_from A.d_is_integer_from
  g_is_integer_from : mg "is_integer_from" = some (.ref A.f_is_integer_from)
  b_is_integer_from : Binds K A.d_is_integer_from ["value", "low", "high"] []
  F_need_integer : Fun K "need_integer" "need_integer" s_need_integer A.f_need_integer A.d_need_integer
  g_need_integer : mg "need_integer" = some (.ref A.f_need_integer)
  b_need_integer : Binds K A.d_need_integer ["value", "low", "high"] []
  F_has_only : Fun K "has_only" "has_only" s_has_only A.f_has_only A.d_has_only
  g_has_only : mg "has_only" = some (.ref A.f_has_only)
  b_has_only : Binds K A.d_has_only ["text", "letters"] []
  F_is_word : Fun K "is_word" "is_word" s_is_word A.f_is_word A.d_is_word
  g_is_word : mg "is_word" = some (.ref A.f_is_word)
  b_is_word : Binds K A.d_is_word ["value"] []
  F_is_rule : Fun K "is_rule" "is_rule" s_is_rule A.f_is_rule A.d_is_rule
  g_is_rule : mg "is_rule" = some (.ref A.f_is_rule)
  b_is_rule : Binds K A.d_is_rule ["value"] []
  F_need_rule : Fun K "need_rule" "need_rule" s_need_rule A.f_need_rule A.d_need_rule
  g_need_rule : mg "need_rule" = some (.ref A.f_need_rule)
  b_need_rule : Binds K A.d_need_rule ["value"] []
  F_image : Fun K "image" "image" s_image A.f_image A.d_image
  g_image : mg "image" = some (.ref A.f_image)
  b_image : Binds K A.d_image ["rule", "word"] []
  F_start_of : Fun K "start_of" "start_of" s_start_of A.f_start_of A.d_start_of
  g_start_of : mg "start_of" = some (.ref A.f_start_of)
  b_start_of : Binds K A.d_start_of ["rule", "length"] []
  F_rule_start : Fun K "rule_start" "rule_start" s_rule_start A.f_rule_start A.d_rule_start
  g_rule_start : mg "rule_start" = some (.ref A.f_rule_start)
  b_rule_start : Binds K A.d_rule_start ["rule", "length"] []
  F_standing_in_images : Fun K "standing_in_images" "standing_in_images" s_standing_in_images A.f_standing_in_images A.d_standing_in_images
  g_standing_in_images : mg "standing_in_images" = some (.ref A.f_standing_in_images)
  b_standing_in_images : Binds K A.d_standing_in_images ["rule", "words", "length"] []
  F_is_rule_word : Fun K "is_rule_word" "is_rule_word" s_is_rule_word A.f_is_rule_word A.d_is_rule_word
  g_is_rule_word : mg "is_rule_word" = some (.ref A.f_is_rule_word)
  b_is_rule_word : Binds K A.d_is_rule_word ["rule", "value"] []
  F_is_cut_row : Fun K "_is_cut_row" "_is_cut_row" s_is_cut_row A.f_is_cut_row A.d_is_cut_row
  g_is_cut_row : mg "_is_cut_row" = some (.ref A.f_is_cut_row)
  b_is_cut_row : Binds K A.d_is_cut_row ["rule", "length", "value"] []
  F_is_cut_list : Fun K "is_cut_list" "is_cut_list" s_is_cut_list A.f_is_cut_list A.d_is_cut_list
  g_is_cut_list : mg "is_cut_list" = some (.ref A.f_is_cut_list)
  b_is_cut_list : Binds K A.d_is_cut_list ["rule", "length", "value"] []
  F_law_open : Fun K "_law_open" "_law_open" s_law_open A.f_law_open A.d_law_open
  g_law_open : mg "_law_open" = some (.ref A.f_law_open)
  b_law_open : Binds K A.d_law_open ["script"] []
  F_law_anew : Fun K "_law_anew" "_law_anew" s_law_anew A.f_law_anew A.d_law_anew
  g_law_anew : mg "_law_anew" = some (.ref A.f_law_anew)
  b_law_anew : Binds K A.d_law_anew ["pen"] []
  F_law_spread : Fun K "_law_spread" "_law_spread" s_law_spread A.f_law_spread A.d_law_spread
  g_law_spread : mg "_law_spread" = some (.ref A.f_law_spread)
  b_law_spread : Binds K A.d_law_spread ["cell", "at"] []
  F_law_take : Fun K "_law_take" "_law_take" s_law_take A.f_law_take A.d_law_take
  g_law_take : mg "_law_take" = some (.ref A.f_law_take)
  b_law_take : Binds K A.d_law_take ["pen", "many"] []
  F_law_one : Fun K "_law_one" "_law_one" s_law_one A.f_law_one A.d_law_one
  g_law_one : mg "_law_one" = some (.ref A.f_law_one)
  b_law_one : Binds K A.d_law_one ["pen", "some"] []
  F_law_power : Fun K "_law_power" "_law_power" s_law_power A.f_law_power A.d_law_power
  g_law_power : mg "_law_power" = some (.ref A.f_law_power)
  b_law_power : Binds K A.d_law_power ["base", "number"] []
  F_law_word_of : Fun K "_law_word_of" "_law_word_of" s_law_word_of A.f_law_word_of A.d_law_word_of
  g_law_word_of : mg "_law_word_of" = some (.ref A.f_law_word_of)
  b_law_word_of : Binds K A.d_law_word_of ["number", "many", "length"] []
  F_law_rule : Fun K "_law_rule" "_law_rule" s_law_rule A.f_law_rule A.d_law_rule
  g_law_rule : mg "_law_rule" = some (.ref A.f_law_rule)
  b_law_rule : Binds K A.d_law_rule ["pen"] []
  F_law_image : Fun K "_law_image" "_law_image" s_law_image A.f_law_image A.d_law_image
  g_law_image : mg "_law_image" = some (.ref A.f_law_image)
  b_law_image : Binds K A.d_law_image ["rule", "word"] []
  F_law_start : Fun K "_law_start" "_law_start" s_law_start A.f_law_start A.d_law_start
  g_law_start : mg "_law_start" = some (.ref A.f_law_start)
  b_law_start : Binds K A.d_law_start ["rule", "length"] []
  F_law_text : Fun K "_law_text" "_law_text" s_law_text A.f_law_text A.d_law_text
  g_law_text : mg "_law_text" = some (.ref A.f_law_text)
  b_law_text : Binds K A.d_law_text ["pen", "rule", "most"] []
  F_law_parts : Fun K "_law_parts" "_law_parts" s_law_parts A.f_law_parts A.d_law_parts
  g_law_parts : mg "_law_parts" = some (.ref A.f_law_parts)
  b_law_parts : Binds K A.d_law_parts ["word", "length"] []
  F_law_pairs : Fun K "_law_pairs" "_law_pairs" s_law_pairs A.f_law_pairs A.d_law_pairs
  g_law_pairs : mg "_law_pairs" = some (.ref A.f_law_pairs)
  b_law_pairs : Binds K A.d_law_pairs ["rule", "length"] []
  F_law_led : Fun K "_law_led" "_law_led" s_law_led A.f_law_led A.d_law_led
  g_law_led : mg "_law_led" = some (.ref A.f_law_led)
  b_law_led : Binds K A.d_law_led ["rule", "word", "length"] []
  F_law_is_closed_list : Fun K "_law_is_closed_list" "_law_is_closed_list" s_law_is_closed_list A.f_law_is_closed_list A.d_law_is_closed_list
  g_law_is_closed_list : mg "_law_is_closed_list" = some (.ref A.f_law_is_closed_list)
  b_law_is_closed_list : Binds K A.d_law_is_closed_list ["rule", "length", "value"] []
  F_law_wider : Fun K "_law_wider" "_law_wider" s_law_wider A.f_law_wider A.d_law_wider
  g_law_wider : mg "_law_wider" = some (.ref A.f_law_wider)
  b_law_wider : Binds K A.d_law_wider ["rule", "length", "pairs", "most"] []
  F_law : Fun K "law" "law" s_law A.f_law A.d_law
  g_law : mg "law" = some (.ref A.f_law)
  b_law : Binds K A.d_law ["script"] []
  g_FEWEST_WORDS : mg "FEWEST_WORDS" = some (.int 2 A.t_FEWEST_WORDS)
  g_LONGEST : mg "LONGEST" = some (.int 4 A.t_LONGEST)
  g_LONGEST_LISTED : mg "LONGEST_LISTED" = some (.int 16 A.t_LONGEST_LISTED)
  g_LONGEST_START : mg "LONGEST_START" = some (.int 200 A.t_LONGEST_START)
  g_LONGEST_WORD : mg "LONGEST_WORD" = some (.int 200 A.t_LONGEST_WORD)
  g_MOST_WORDS : mg "MOST_WORDS" = some (.int 4 A.t_MOST_WORDS)
  g_SHORTEST : mg "SHORTEST" = some (.int 2 A.t_SHORTEST)
  g_SMALL : mg "SMALL" = some (.str "abcdefghijklmnopqrstuvwxyz" A.t_SMALL)
  bool : mg "bool" = none
  enumerate : mg "enumerate" = none
  int : mg "int" = none
  isinstance : mg "isinstance" = none
  len : mg "len" = none
  list : mg "list" = none
  range : mg "range" = none
  repr : mg "repr" = none
  set : mg "set" = none
  sorted : mg "sorted" = none
  str : mg "str" = none
  tuple : mg "tuple" = none
  g_InvalidNumber : mg "InvalidNumber" = some (.ref A.c_InvalidNumber)
  g_InvalidRule : mg "InvalidRule" = some (.ref A.c_InvalidRule)
  g_PatternError : mg "PatternError" = some (.ref A.c_PatternError)
def spTop (K : PySem.W.Frag) : Sp := fun vs H Q _ => ∃ (a : Addr) (ns : List Int), vs = [.ref a] ∧ SqL K H a (ns.map V.int) ∧ ns.length ≤ 63 ∧ ∀ H', Q (.bl true) H'

section
variable {P : Program} {w : World} {K : PySem.W.Frag} {mg : Str → Option Value} {base : Heap} {A : Ad}

/-! ### is_integer -/
def isIntD : PyData → Bool | .int _ => true | _ => false
def sp_is_integer (K : PySem.W.Frag) : Sp := fun vs H Q _ => ∃ x d, vs = [x] ∧ Dp K H x d ∧ Q (.bl (isIntD d)) H
theorem ok_is_integer (T : Txt K mg A) : FnOk P w K mg base CX0 1 A.f_is_integer A.d_is_integer ["value"] (sp_is_integer K) := by
  refine T.F_is_integer.ok sc_is_integer (fun vs H Q E h => ?_) (fun cdv A' outer s H vs Q E hr h => ?_)
  · obtain ⟨x, d, rfl, _⟩ := h
    rfl
  · obtain ⟨x, d, rfl, hd, k⟩ := h
    refine ⟨_, (pss_one (ps_ret (pe_and (pe_callB call_isi (by rfl) T.isinstance PyProof.Rows.boot_isinstance (pa_cons (pv 0) (pa_cons (pe_bltn (v := .ty "int") (by rfl) T.int (by decide +kernel) rfl) pa_nil))) (pe_one (pe_not (pe_callB call_isi (by rfl) T.isinstance PyProof.Rows.boot_isinstance (pa_cons (pv 0) (pa_cons (pe_bltn (v := .ty "bool") (by rfl) T.bool (by decide +kernel) rfl) pa_nil)))))))), ?_⟩
    refine ⟨_, rfl, _, _, _, _, _, rfl, .ty _, dp_ty hd, kit_int d, _, rfl, ?_⟩
    cases hd with
    | int i => exact iteT ⟨_, rfl, _, _, _, _, _, rfl, .ty _, dp_ty (K := K) (H := H) (.int i), kit_bool _, _, rfl, k⟩
    | bl b => exact iteT ⟨_, rfl, _, _, _, _, _, rfl, .ty _, dp_ty (K := K) (H := H) (.bl b), kit_bool _, _, rfl, k⟩
    | non => exact iteF k
    | str z => exact iteF k
    | lst h1 h2 => exact iteF k
    | tup h1 h2 => exact iteF k

/-! ### is_integer_from -/
def sp_is_integer_from (K : PySem.W.Frag) : Sp := fun vs H Q _ => ∃ x d lo hi, vs = [x, .int lo, .int hi] ∧ Dp K H x d ∧ Q (.bl (inRange d lo hi)) H
theorem ok_is_integer_from (T : Txt K mg A) : FnOk P w K mg base CX0 2 A.f_is_integer_from A.d_is_integer_from ["value", "low", "high"] (sp_is_integer_from K) := by
  refine T.F_is_integer_from.ok sc_is_integer_from (fun vs H Q E h => ?_) (fun cdv A' outer s H vs Q E hr h => ?_)
  · obtain ⟨x, d, lo, hi, rfl, _⟩ := h
    rfl
  · obtain ⟨x, d, lo, hi, rfl, hd, k⟩ := h
    refine ⟨_, (pss_one (ps_ret (pe_and (pe_call (ok_is_integer T) hr (by rfl) T.g_is_integer T.F_is_integer.kp T.b_is_integer .nil pass0 (pa_cons (pv 0) pa_nil)) (pe_one (pe_chain op_le op_le (pv 1) (pv 0) (pv 2)))))), ?_⟩
    refine ⟨_, rfl, x, d, rfl, hd, _, rfl, ?_⟩
    cases hd with
    | int i =>
      refine iteT ⟨_, rfl, _, rfl, _, _, rfl, rfl, _, rfl, ?_⟩
      have k' : Q (.bl (decide (lo ≤ i) && decide (i ≤ hi))) H := k
      by_cases h1 : lo ≤ i
      · rw [decide_eq_true h1] at k' ⊢
        exact iteT ⟨_, rfl, _, _, rfl, rfl, k'⟩
      · rw [decide_eq_false h1] at k' ⊢
        exact iteF k'
    | bl b => exact iteF k
    | non => exact iteF k
    | str z => exact iteF k
    | lst h1 h2 => exact iteF k
    | tup h1 h2 => exact iteF k

/-! ### need_integer, of an integer in the range -/
def sp_need_integer (K : PySem.W.Frag) : Sp := fun vs H Q _ => ∃ x d lo hi, vs = [x, .int lo, .int hi] ∧ Dp K H x d ∧ inRange d lo hi = true ∧ Q .non H
theorem ok_need_integer (T : Txt K mg A) : FnOk P w K mg base CX0 3 A.f_need_integer A.d_need_integer ["value", "low", "high"] (sp_need_integer K) := by
  refine T.F_need_integer.ok sc_need_integer (fun vs H Q E h => ?_) (fun cdv A' outer s H vs Q E hr h => ?_)
  · obtain ⟨x, d, lo, hi, rfl, _⟩ := h
    rfl
  · obtain ⟨x, d, lo, hi, rfl, hd, e, k⟩ := h
    refine ⟨_, (pss_one (ps_if (pt_not (pt_val (pe_call (ok_is_integer_from T) hr (by rfl) T.g_is_integer_from T.F_is_integer_from.kp T.b_is_integer_from .nil pass0 (pa_cons (pv 0) (pa_cons (pv 1) (pa_cons (pv 2) pa_nil)))))) (pss_one ps_never) pss_nil)), ?_⟩
    refine ⟨_, rfl, _, rfl, _, rfl, x, d, lo, hi, rfl, hd, _, rfl, ?_⟩
    rw [e]
    exact iteF k

/-! ### has_only -/
def sp_has_only : Sp := fun vs H Q _ => ∃ l m : List Nat, vs = [.str (S l), .str (S m)] ∧ Q (.bl (allIn l m)) H
theorem ok_has_only (T : Txt K mg A) : FnOk P w K mg base CX0 1 A.f_has_only A.d_has_only ["text", "letters"] sp_has_only := by
  refine T.F_has_only.ok sc_has_only (fun vs H Q E h => ?_) (fun cdv A' outer s H vs Q E hr h => ?_)
  · obtain ⟨l, m, rfl, _⟩ := h
    rfl
  · obtain ⟨l, m, rfl, k⟩ := h
    refine ⟨_, (pss_cons (ps_for PassesOwn.never rfl (pi_str (pv 0)) (pg_name (i := 2) sc_has_only.nd rfl (by first | exact Or.inl rfl | exact Or.inr rfl)) (pss_one (ps_if (pt_cmpR op_notIn_sign (pv 2) (pv 1) rfl) (pss_one (ps_ret pe_bl)) pss_nil)))
  (pss_one (ps_ret pe_bl))), ?_⟩
    refine ⟨_, rfl, S l, rfl, for_it walk_S (fun i σ H' => ∃ y, σ = [some (.str (S l)), some (.str (S m)), y] ∧ H' = H ∧ ∀ c ∈ l.take i, c ∈ m) ⟨none, rfl, rfl, fun _ h => nomatch h⟩ (fun _ _ _ _ _ => trivial) ?_ ?_⟩
    · rintro i x σ H2 H3 hi ⟨y, rfl, rfl, hm⟩ ⟨rfl, c, hc, rfl⟩
      refine ⟨_, rfl, _, rfl, c, S m, rfl, rfl, _, rfl, ?_⟩
      by_cases hcm : c ∈ m
      · rw [show decide (c ∈ (S m).cps.toList) = true from decide_eq_true hcm]
        refine iteF ⟨_, rfl, rfl, fun d hd => ?_⟩
        rw [List.take_add_one, hc] at hd
        rcases List.mem_append.mp hd with h | h
        · exact hm d h
        · rw [Option.toList_some, List.mem_singleton] at h
          subst h; exact hcm
      · rw [show decide (c ∈ (S m).cps.toList) = false from decide_eq_false hcm]
        refine iteT ?_
        have e : allIn l m = false := by
          cases h : allIn l m with
          | false => rfl
          | true => exact absurd (allIn_iff.mp h c (List.mem_of_getElem? hc)) hcm
        rw [e] at k
        exact k
    · rintro σ H2 ⟨y, rfl, rfl, hm⟩
      rw [List.take_length] at hm
      have e : allIn l m = true := allIn_iff.mpr hm
      rw [e] at k
      exact k

/-! ### is_word, of any value -/
def sp_is_word (K : PySem.W.Frag) : Sp := fun vs H Q _ => ∃ x d, vs = [x] ∧ Dp K H x d ∧ (strOf d).length ≤ 200000 ∧ Q (.bl (wordD d)) H
theorem ok_is_word (T : Txt K mg A) : FnOk P w K mg base CX0 2 A.f_is_word A.d_is_word ["value"] (sp_is_word K) := by
  refine T.F_is_word.ok sc_is_word (fun vs H Q E h => ?_) (fun cdv A' outer s H vs Q E hr h => ?_)
  · obtain ⟨x, d, rfl, _⟩ := h
    rfl
  · obtain ⟨x, d, rfl, hd, hl, k⟩ := h
    refine ⟨_, (pss_one (ps_ret (pe_and (pe_callB call_isi (by rfl) T.isinstance PyProof.Rows.boot_isinstance (pa_cons (pv 0) (pa_cons (pe_bltn (v := .ty "str") (by rfl) T.str (by decide +kernel) rfl) pa_nil))) (pe_and (pe_cmpR op_le (pe_callB call_len_str (by rfl) T.len PySem.boot_len (pa_cons (pv 0) pa_nil)) (pe_glob (v := .int 200) (by rfl) T.g_LONGEST_WORD ⟨_, rfl⟩) (nomark _)) (pe_one (pe_call (ok_has_only T) hr (by rfl) T.g_has_only T.F_has_only.kp T.b_has_only .nil pass0 (pa_cons (pv 0) (pa_cons (pe_glob (v := .str "abcdefghijklmnopqrstuvwxyz") (by rfl) T.g_SMALL ⟨_, rfl⟩) pa_nil)))))))), ?_⟩
    refine ⟨_, rfl, _, _, _, _, _, rfl, .ty _, dp_ty hd, kit_str d, _, rfl, ?_⟩
    cases hd with
    | non => exact iteF k
    | bl b => exact iteF k
    | int i => exact iteF k
    | lst h1 h2 => exact iteF k
    | tup h1 h2 => exact iteF k
    | str z =>
      obtain ⟨l, rfl⟩ : ∃ l, z = S l := ⟨z.cps.toList, rfl⟩
      replace hl : l.length ≤ 200000 := hl
      have k : Q (.bl (decide (l.length ≤ 200) && allIn l smallL)) H := k
      have hsz : sizeLine = 16777216 := sizeLine_eq
      refine iteT ⟨_, rfl, S l, rfl, by rw [len_S]; omega, _, _, rfl, rfl, _, rfl, ?_⟩
      rw [len_S]
      by_cases h1 : l.length ≤ 200
      · rw [decide_eq_true h1] at k
        rw [show decide ((l.length : Int) ≤ 200) = true from decide_eq_true (by omega)]
        exact iteT ⟨_, rfl, l, smallL, by rw [smallS]; rfl, k⟩
      · rw [decide_eq_false h1] at k
        rw [show decide ((l.length : Int) ≤ 200) = false from decide_eq_false (by omega)]
        exact iteF k

/-! ### is_rule -/
def sp_is_rule (K : PySem.W.Frag) : Sp := fun vs H Q _ => ∃ (x : V) (d : PyData), vs = [x] ∧ Dp K H x d ∧ (∀ ds, d = .tuple ds → ∀ f ∈ ds, (strOf f).length ≤ 20000 ∧ ∀ c ∈ strOf f, c < 0x110000) ∧ ∀ H', Same H H' → Q (.bl (ruleD d)) H'
theorem ok_is_rule (T : Txt K mg A) : FnOk P w K mg base CX0 3 A.f_is_rule A.d_is_rule ["value"] (sp_is_rule K) := by
  refine T.F_is_rule.ok sc_is_rule (fun vs H Q E h => ?_) (fun cdv A' outer s H vs Q E hr h => ?_)
  · obtain ⟨x, d, rfl, _⟩ := h
    rfl
  · obtain ⟨x, d, rfl, hd, hit, k⟩ := h
    refine ⟨_, (pss_cons (ps_if (PW.pt (pw_or (pt_not (pt_val (pe_callB call_isi (by rfl) T.isinstance PyProof.Rows.boot_isinstance (pa_cons (pv 0) (pa_cons (pe_bltn (v := .ty "tuple") (by rfl) T.tuple (by decide +kernel) rfl) pa_nil))))) (pw_or1 (pt_not (pt_chain op_le op_le (pe_glob (v := .int 2) (by rfl) T.g_FEWEST_WORDS ⟨_, rfl⟩) (pe_callB (call_lenK (K := K)) (by rfl) T.len PySem.boot_len (pa_cons (pv 0) pa_nil)) (pe_glob (v := .int 4) (by rfl) T.g_MOST_WORDS ⟨_, rfl⟩)))))) (pss_one (ps_ret pe_bl)) pss_nil)
  (pss_cons (ps_for PassesOwn.never rfl (pi_tup (pv 0)) (pg_name (i := 1) sc_is_rule.nd rfl (by first | exact Or.inl rfl | exact Or.inr rfl)) (pss_one (ps_if (PW.pt (pw_or (pt_not (pt_val (pe_call (ok_is_word T) hr (by rfl) T.g_is_word T.F_is_word.kp T.b_is_word .nil pass0 (pa_cons (pv 1) pa_nil)))) (pw_or1 (pt_not (pt_val (pe_call (ok_has_only T) (hr.mono (by decide)) (by rfl) T.g_has_only T.F_has_only.kp T.b_has_only .nil pass0 (pa_cons (pv 1) (pa_cons (pe_slice sl_str (pe_glob (v := .str "abcdefghijklmnopqrstuvwxyz") (by rfl) T.g_SMALL ⟨_, rfl⟩) po_none (po_some (pe_callB (call_lenK (K := K)) (by rfl) T.len PySem.boot_len (pa_cons (pv 0) pa_nil)))) pa_nil)))))))) (pss_one (ps_ret pe_bl)) pss_nil)))
  (pss_cons (ps_setLc (i := 2) (own := [("word", 1)]) (g := gName 1) (tt := tYes) (by rfl) sc_is_rule.nd rfl rfl (sw_true rfl rfl rfl (by decide +kernel)) (pi_tup (pv 0)) (blkOk_by (own := [("word", 1)]) (N := ["value", "word", "sizes"]) (sc := defScope s_is_rule) (by decide +kernel)) (fun _ _ _ _ _ => (pg_name (i := 1) sc_is_rule.nd rfl (by first | exact Or.inl rfl | exact Or.inr rfl))) (fun _ _ _ _ _ => pts_nil) (fun _ _ _ _ _ => (pe_callB call_len_str (by rfl) T.len PySem.boot_len (pa_cons (pv 1) pa_nil))))
  (pss_cons (ps_if (PW.pt (pw_or (pt_not (pt_chain op_le op_le (pe_glob (v := .int 2) (by rfl) T.g_SHORTEST ⟨_, rfl⟩) (pe_ix (ix_listK (K := K)) (pv 2) pe_int (fun _ _ => rfl)) (pe_glob (v := .int 4) (by rfl) T.g_LONGEST ⟨_, rfl⟩))) (pw_or1 (pt_cmpR (op_neD hr.units) (pv 2) (pe_op op_rep (pe_lst (pa_cons (pe_ix (ix_listK (K := K)) (pv 2) pe_int (fun _ _ => rfl)) pa_nil)) (pe_callB (call_lenK (K := K)) (by rfl) T.len PySem.boot_len (pa_cons (pv 0) pa_nil))) (nomark _))))) (pss_one (ps_ret pe_bl)) pss_nil)
  (pss_one (ps_ret (pe_and (pe_cmpR op_eq (pe_callB cr_lenSetH (by rfl) T.len PySem.boot_len (pa_cons (pe_callTy (cr_setKeys rfl) (by rfl) T.set (by decide +kernel) (pa_cons (pv 0) pa_nil)) pa_nil)) (pe_callB (call_lenK (K := K)) (by rfl) T.len PySem.boot_len (pa_cons (pv 0) pa_nil)) (nomark _)) (pe_one (pe_cmpR op_eq (pe_ix ix_str (pe_ix (ix_tupK (K := K)) (pv 0) pe_int (fun _ _ => rfl)) pe_int (fun _ _ => rfl)) pe_str (nomark _)))))))))), ?_⟩
    refine ⟨_, rfl, _, _, _, _, _, rfl, .ty _, dp_ty hd, kit_tup d, _, rfl, ?_⟩
    cases hd with
    | non => exact iteT (k H (Same.refl H))
    | bl b => exact iteT (k H (Same.refl H))
    | int i => exact iteT (k H (Same.refl H))
    | str z => exact iteT (k H (Same.refl H))
    | lst h1 h2 => exact iteT (k H (Same.refl H))
    | @tup a ys ds h1 h2 =>
      have hn := dpAll_len h2
      have hit := hit ds rfl
      replace k : ∀ H', Same H H' → Q (.bl (ruleGo ds)) H' := k
      have small : ∀ {w : List Nat}, allIn w smallL = false → ∀ m, ¬ ∀ c ∈ w, 97 ≤ c ∧ c < 97 + m ∧ m ≤ 4 := fun {w} h m z => by
        have : allIn w smallL = true := allIn_iff.mpr fun c hc => by
          have key : ∀ n, n < 4 → (97 + n) ∈ smallL := by decide
          obtain ⟨h1, h2, h3⟩ := z c hc
          have := key (c - 97) (by omega)
          rwa [show 97 + (c - 97) = c by omega] at this
        rw [h] at this
        cases this
      refine iteF ⟨_, rfl, a, _, rfl, .inr h1, _, _, rfl, rfl, _, rfl, ?_⟩
      rw [hn]
      by_cases h24 : 2 ≤ ds.length
      · rw [decide_eq_true (by omega)]
        refine iteT ⟨_, _, rfl, rfl, _, rfl, ?_⟩
        by_cases h4 : ds.length ≤ 4
        · rw [decide_eq_true (by omega)]
          refine iteF ?_
          refine ⟨_, rfl, a, rfl, ⟨_, h1⟩, for_it (walk_tup (xs := ys)) (fun i σ H' => ∃ y1, σ = [some (.ref a), y1, none] ∧ H' = H ∧ ∀ d ∈ ds.take i, dStr d = true ∧ ∀ c ∈ strOf d, 97 ≤ c ∧ c < 97 + ds.length) ⟨none, rfl, rfl, fun _ h => (nomatch h)⟩ (fun _ _ _ _ h => ?_) ?_ ?_⟩
          · obtain ⟨_, _, rfl, _⟩ := h
            exact h1
          · rintro i x σ H2 H3 hi ⟨y1, rfl, rfl, hall⟩ ⟨rfl, hx⟩
            obtain ⟨f, hf, hfd⟩ := dpAll_at h2 hx
            have hmem := List.mem_of_getElem? hf
            obtain ⟨hl, _⟩ := hit f hmem
            refine ⟨_, rfl, _, f, rfl, hfd, by omega, _, rfl, ?_⟩
            have no : (dStr f = true → ¬ ((strOf f).length ≤ 4 ∧ ∀ c ∈ strOf f, 97 ≤ c ∧ c < 97 + ds.length)) → Q (.bl false) _ := fun h => (rule_no fun hs hr => by
              obtain ⟨_, _, ⟨q, _, hq4, hq⟩, _⟩ := hr
              obtain ⟨z1, z2⟩ := hq (strOf f) (List.mem_map_of_mem hmem)
              rw [List.length_map] at z2
              exact h (hs f hmem) ⟨by omega, z2⟩) ▸ k _ (Same.refl _)
            cases q1 : wordD f with
            | false =>
              refine iteT (no fun hs hz => ?_)
              unfold wordD at q1
              rw [hs, Bool.true_and, decide_eq_true (by omega), Bool.true_and] at q1
              exact small q1 ds.length fun c hc => ⟨(hz.2 c hc).1, (hz.2 c hc).2, h4⟩
            | true =>
              refine iteF ?_
              obtain ⟨m, rfl⟩ : ∃ m, f = .str (S m) := by
                cases f with
                | str z => exact ⟨z.cps.toList, rfl⟩
                | _ => cases q1
              cases hfd
              refine ⟨_, rfl, ?_⟩
              dsimp only [tNoPart]
              refine ⟨_, rfl, a, _, rfl, .inr h1, _, rfl, _, rfl, by decide +kernel, ?_⟩
              rw [smallS, cutS_S, hn, cutL_pre]
              refine ⟨m, _, rfl, _, rfl, ?_⟩
              cases q2 : allIn m (smallL.take ds.length) with
              | true =>
                refine iteF ⟨_, rfl, rfl, fun d hd => ?_⟩
                rw [take_snoc hf] at hd
                rcases List.mem_append.mp hd with h | h
                · exact hall d h
                · rw [List.mem_singleton.mp h]
                  exact ⟨rfl, fun c hc => (small_take h4 c).mp (allIn_iff.mp q2 c hc)⟩
              | false =>
                refine iteT (no fun _ hz => ?_)
                have : allIn m (smallL.take ds.length) = true := allIn_iff.mpr fun c hc => (small_take h4 c).mpr (hz.2 c hc)
                rw [q2] at this
                cases this
          · rintro σ H2 ⟨y1, rfl, rfl, hall⟩
            rw [hn, List.take_length] at hall
            have hst : ∀ d ∈ ds, dStr d = true := fun d hd => (hall d hd).1
            have hds := all_strs hst
            have hwl : (ds.map strOf).length = ds.length := List.length_map ..
            have hwc : ∀ w ∈ ds.map strOf, w.length ≤ 20000 ∧ ∀ c ∈ w, 97 ≤ c ∧ c < 97 + ds.length := fun w hw => by
              obtain ⟨f, hf, rfl⟩ := List.mem_map.mp hw
              exact ⟨(hit f hf).1, (hall f hf).2⟩
            have kt : RuleP (ds.map strOf) → ∀ H', Same H2 H' → Q (.bl true) H' := fun hc => rule_yes hst hc ▸ k
            have kf : ¬ RuleP (ds.map strOf) → ∀ H', Same H2 H' → Q (.bl false) H' := fun hc => rule_no (fun _ => hc) ▸ k
            rw [← hwl] at hwc h24 h4
            clear k hall hit hst hwl hn
            generalize ds.map strOf = ws at *
            subst hds
            obtain rfl := words_dp h2
            clear hit small
            obtain ⟨w0, r, ew⟩ : ∃ w0 r, ws = w0 :: r := by
              cases ws with
              | nil => exact absurd h24 (by decide)
              | cons x r => exact ⟨x, r, rfl⟩
            have hw0 : ws[0]? = some w0 := by rw [ew]; rfl
            have m0 : w0 ∈ ws := List.mem_of_getElem? hw0
            have hv0 : (ws.map vW)[0]? = some (vW w0) := by rw [List.getElem?_map, hw0]; rfl
            refine ⟨_, rfl, a, rfl, ⟨_, h1⟩, fun D hD => ?_⟩
            have wk : Walk (Itt K a) ws.length (fun H => SqT K H a (ws.map vW)) (YAt (ws.map vW)) := by
              have w := walk_tup (K := K) (a := a) (xs := ws.map vW)
              rw [List.length_map] at w
              exact w
            refine lc_map ws (fun w => vN w.length) wk hD (by omega) (fun H' s => same_tup s h1) ?_ ?_
            · rintro i w x H3 H4 R hw s3 ⟨rfl, hx⟩ hR
              rw [List.getElem?_map, hw] at hx
              obtain rfl := Option.some.inj hx
              have := (hwc w (List.mem_of_getElem? hw)).1
              refine ⟨rfl, _, rfl, S w, rfl, by rw [len_S, sizeLine_eq]; omega, ?_⟩
              rw [len_S]
              exact hR _ (Same.refl _)
            intro H3 s3 e3
            have hs0 : (ws.map fun w => vN w.length)[0]? = some (vN w0.length) := by rw [List.getElem?_map, hw0]; rfl
            refine ⟨_, rfl, D, _, _, vN w0.length, rfl, rfl, SqL.of e3, atI_nat hs0, _, _, rfl, rfl, _, rfl, ?_⟩
            by_cases g2 : 2 ≤ w0.length
            · rw [decide_eq_true (by omega)]
              refine iteT ⟨_, _, rfl, rfl, _, rfl, ?_⟩
              by_cases g4 : w0.length ≤ 4
              · rw [decide_eq_true (by omega)]
                refine iteF ?_
                refine ⟨_, rfl, _, rfl, D, _, _, vN w0.length, rfl, rfl, SqL.of e3, atI_nat hs0, by show 1 ≤ sizeLine; decide, ?_⟩
                walk_at "n1"
                refine ⟨_, rfl, a, _, rfl, .inr (same_tup (s3.trans S1) h1), l1, _, _, rfl, rfl, e1, by rw [List.length_map]; omega, by rw [List.length_map]; omega, by rw [List.length_map, Int.toNat_natCast, sizeLine_eq]; show 1 * ws.length ≤ _; omega, ?_⟩
                walk_at "n2"
                have e2' : H2 l2 = some (.lst ((List.replicate ws.length w0.length).map vN)) := by
                  rw [e2, List.length_map, Int.toNat_natCast]
                  have key : ∀ n : Nat, (List.replicate n [vN w0.length]).flatten = (List.replicate n w0.length).map vN := fun n => by
                    induction n with
                    | zero => rfl
                    | succ n ih => rw [List.replicate_succ, List.replicate_succ, List.flatten_cons, ih]; rfl
                  rw [key]
                have e3' : H2 D = some (.lst ((ws.map List.length).map vN)) := by
                  rw [List.map_map]
                  exact S2 _ _ (S1 _ _ e3)
                refine ⟨_, _, .lst (SqL.of e3') (ints_all _ _), .lst (SqL.of e2') (ints_all _ _), ints_shaped _, ints_shaped _, _, rfl, ?_⟩
                rw [ints_eqv]
                have s4 := (s3.trans S1).trans S2
                have hal : ws.map List.length = List.replicate ws.length w0.length ↔ ∀ w ∈ ws, w.length = w0.length := by
                  have q := all_same (n := w0.length) (l := ws.map List.length)
                  rw [List.length_map] at q
                  rw [q]
                  exact ⟨fun h w hw => h _ (List.mem_map_of_mem hw), fun h x hx => by obtain ⟨w, hw, rfl⟩ := List.mem_map.mp hx; exact h w hw⟩
                by_cases hsz : ∀ w ∈ ws, w.length = w0.length
                · rw [decide_eq_true (hal.mpr hsz)]
                  refine iteF ?_
                  refine ⟨_, rfl, ws.map (fun m => Sum.inr (S m)), .inl ⟨a, rfl, .inr (by rw [List.map_map]; exact same_tup s4 h1)⟩, by rw [List.length_map]; omega, fun p3 n3 => ?_⟩
                  generalize h5 : upd _ p3 _ = H5
                  obtain ⟨S5, e5⟩ := nw h5 n3
                  clear h5
                  have s5 := s4.trans S5
                  refine ⟨p3, _, _, rfl, e5, _, rfl, a, ws.map vW, rfl, .inr (same_tup s5 h1), rfl, ?_⟩
                  rw [List.length_map]
                  by_cases hnd : ws.Nodup
                  · rw [show decide (V.int ((kdist (ws.map fun m => (Sum.inr (S m) : Key))).length : Int) = V.int (ws.length : Int)) = true from decide_eq_true (by rw [(kdist_all ws).mpr hnd])]
                    obtain ⟨c0, t0, ec⟩ : ∃ c0 t0, w0 = c0 :: t0 := by
                      cases w0 with
                      | nil => exact absurd g2 (by decide)
                      | cons x r => exact ⟨x, r, rfl⟩
                    have hc0 : w0[0]? = some c0 := by rw [ec]; rfl
                    refine ⟨_, rfl, iteT ⟨_, rfl, a, _, _, vW w0, rfl, rfl, same_tup s5 h1, atI_nat hv0, S w0, _, c0, rfl, rfl, by rw [len_S]; exact Nat.le_trans g4 (by decide), atI_nat hc0, rfl, ?_⟩⟩
                    have ea : V.str (("a" : String) : Str) = V.str (S [97]) := congrArg V.str (by decide +kernel)
                    rw [ea]
                    by_cases h97 : c0 = 97
                    · rw [show decide (V.str { cps := #[c0] } = V.str (S [97])) = true from decide_eq_true (by rw [h97])]
                      refine kt ⟨h24, h4, ⟨w0.length, g2, g4, fun w hw => ⟨hsz w hw, (hwc w hw).2⟩⟩, hnd, t0, ?_⟩ _ s5
                      rw [hw0, ec, h97]
                    · rw [show decide (V.str { cps := #[c0] } = V.str (S [97])) = false from decide_eq_false fun z => h97 (by
                        have q : S [c0] = S [97] := V.str.inj z
                        have := SX.S_inj q
                        rw [List.cons.injEq] at this
                        exact this.1)]
                      refine kf (fun hc => ?_) _ s5
                      obtain ⟨_, _, _, _, t, ht⟩ := hc
                      rw [hw0, ec] at ht
                      have := Option.some.inj ht
                      rw [List.cons.injEq] at this
                      exact h97 this.1
                  · rw [show decide (V.int ((kdist (ws.map fun m => (Sum.inr (S m) : Key))).length : Int) = V.int (ws.length : Int)) = false from decide_eq_false fun z => hnd ((kdist_all ws).mp (by have := V.int.inj z; omega))]
                    exact ⟨_, rfl, iteF (kf (fun hc => hnd hc.2.2.2.1) _ s5)⟩
                · rw [decide_eq_false fun z => hsz (hal.mp z)]
                  exact iteT (kf (fun hc => by
                    obtain ⟨_, _, ⟨q, _, _, hq⟩, _⟩ := hc
                    exact hsz fun w hw => (hq w hw).1.trans (hq w0 m0).1.symm) _ s4)
              · rw [decide_eq_false (by omega)]
                exact iteT (kf (fun hc => by
                  obtain ⟨_, _, ⟨q, _, hq4, hq⟩, _⟩ := hc
                  have := (hq w0 m0).1
                  omega) _ s3)
            · rw [decide_eq_false (by omega)]
              exact iteF ⟨_, rfl, iteT (kf (fun hc => by
                obtain ⟨_, _, ⟨q, hq2, _, hq⟩, _⟩ := hc
                have := (hq w0 m0).1
                omega) _ s3)⟩
        · rw [decide_eq_false (by omega)]
          exact iteT ((rule_no fun _ hr => h4 (by have := hr.2.1; rwa [List.length_map] at this)) ▸ k H (Same.refl H))
      · rw [decide_eq_false (by omega)]
        exact iteF ⟨_, rfl, iteT ((rule_no fun _ hr => h24 (by have := hr.1; rwa [List.length_map] at this)) ▸ k H (Same.refl H))⟩

/-! ### need_rule, of a rule -/
def sp_need_rule (K : PySem.W.Frag) : Sp := fun vs H Q _ => ∃ (a : Addr) (W : List (List Nat)), vs = [.ref a] ∧ SqT K H a (W.map vW) ∧ RuleP W ∧ ∀ H', Same H H' → Q .non H'
theorem ok_need_rule (T : Txt K mg A) : FnOk P w K mg base CX0 4 A.f_need_rule A.d_need_rule ["value"] (sp_need_rule K) := by
  refine T.F_need_rule.ok sc_need_rule (fun vs H Q E h => ?_) (fun cdv A' outer s H vs Q E hr h => ?_)
  · obtain ⟨a, W, rfl, _⟩ := h
    rfl
  · obtain ⟨a, W, rfl, ha, hW, k⟩ := h
    refine ⟨_, (pss_one (ps_if (pt_not (pt_val (pe_call (ok_is_rule T) hr (by rfl) T.g_is_rule T.F_is_rule.kp T.b_is_rule .nil pass0 (pa_cons (pv 0) pa_nil)))) (pss_one ps_never) pss_nil)), ?_⟩
    have hcode : ∀ w ∈ W, w.length ≤ 20000 ∧ ∀ c ∈ w, c < 0x110000 := fun w hw => by
      obtain ⟨_, h4, ⟨q, _, hq4, hq⟩, _⟩ := hW
      obtain ⟨z1, z2⟩ := hq w hw
      exact ⟨by omega, fun c hc => by have := z2 c hc; omega⟩
    have hr1 : ruleD (.tuple (W.map dW)) = true := rule_yes (fun d hd => by obtain ⟨w, _, rfl⟩ := List.mem_map.mp hd; rfl) (by
      rw [List.map_map]
      exact (List.map_id' W).symm ▸ hW)
    refine ⟨_, rfl, _, .tuple (W.map dW), rfl, .tup ha (dpAll_words W), fun ds e f hf => ?_, fun H1 S1 => ⟨_, rfl, ?_⟩⟩
    · cases e
      obtain ⟨w, hw, rfl⟩ := List.mem_map.mp hf
      exact hcode w hw
    · rw [hr1]
      exact iteF (k H1 S1)

/-! ### image -/
def sp_image (K : PySem.W.Frag) : Sp := fun vs H Q _ => ∃ (a : Addr) (W : List (List Nat)) (l : List Nat), vs = [.ref a, .str (S l)] ∧ SqT K H a (W.map vW) ∧ W.length ≤ 4 ∧ (∀ w ∈ W, w.length ≤ 4) ∧ l.length ≤ 1000 ∧ (∀ c ∈ l, 97 ≤ c ∧ c < 97 + W.length) ∧ ∀ H', Same H H' → Q (.str (S (imgL W l))) H'
theorem ok_image (T : Txt K mg A) : FnOk P w K mg base CX0 1 A.f_image A.d_image ["rule", "word"] (sp_image K) := by
  refine T.F_image.ok sc_image (fun vs H Q E h => ?_) (fun cdv A' outer s H vs Q E hr h => ?_)
  · obtain ⟨a, W, l, rfl, _⟩ := h
    rfl
  · obtain ⟨a, W, l, rfl, ha, hW, hw, hl, hc, k⟩ := h
    refine ⟨_, (pss_one (ps_ret (pe_join pe_str (pe_lc (own := [("letter", 2)]) (g := gName 2) (tt := tYes) (by rfl) sc_image.nd (pi_str (pv 1)) (blkOk_by (own := [("letter", 2)]) (N := ["rule", "word", "letter"]) (sc := defScope s_image) (by decide +kernel)) (fun _ _ _ _ _ => (pg_name (i := 2) sc_image.nd rfl (by first | exact Or.inl rfl | exact Or.inr rfl))) (fun _ _ _ _ _ => pts_nil) (fun _ _ _ _ _ => (pe_ix (ix_tupK (K := K)) (pv 0) (pe_idx (pe_glob (v := .str "abcdefghijklmnopqrstuvwxyz") (by rfl) T.g_SMALL ⟨_, rfl⟩) (pv 2)) (fun _ _ => rfl))))))), ?_⟩
    have hs4 : ∀ c, 97 ≤ c ∧ c < 97 + W.length → c ∈ smallL ∧ smallL.idxOf c = c - 97 := fun c h => by
      have key : ∀ n, n < 4 → (97 + n) ∈ smallL ∧ smallL.idxOf (97 + n) = n := by decide
      obtain ⟨h1, h2⟩ := h
      have e : 97 + (c - 97) = c := by omega
      have := key (c - 97) (by omega)
      rw [e] at this
      exact this
    refine ⟨⟨_, rfl⟩, _, rfl, S l, rfl, fun D hD => ?_⟩
    refine lc_map l (fun c => vW (W[c - 97]?.getD [])) walk_S hD (by omega) (fun _ _ => trivial) ?_ ?_
    · rintro i c x H2 H3 R hx s2 ⟨rfl, x', hx', rfl⟩ hR
      obtain rfl : c = x' := Option.some.inj (hx.symm.trans hx')
      have hcl := hc c (List.mem_of_getElem? hx)
      obtain ⟨m1, m2⟩ := hs4 c hcl
      have hlt : c - 97 < W.length := by omega
      refine ⟨rfl, _, rfl, ⟨_, rfl⟩, _, rfl, smallL, c, by rw [smallS], rfl, m1, a, _, _, _, rfl, rfl, same_tup s2 ha, ?_, hR H3 (Same.refl H3)⟩
      rw [m2]
      exact atI_nat (by rw [List.getElem?_map, List.getElem?_eq_getElem hlt]; rfl)
    · intro H2 s2 g2
      have g3 : H2 D = some (.lst (((l.map fun c => W[c - 97]?.getD []).map S).map V.str)) := by rw [List.map_map, List.map_map]; exact g2
      refine ⟨S [], D, _, rfl, rfl, .inl (SqL.of g3), join_ok 4 (fun y hy => ?_) (by rw [List.length_map]; omega), ?_⟩
      · obtain ⟨c, _, rfl⟩ := List.mem_map.mp hy
        cases e : W[c - 97]? with
        | none => exact Nat.zero_le _
        | some w => exact hw w (List.mem_of_getElem? e)
      rw [join0, ← List.flatMap_def]
      exact k H2 s2

/-! ### start_of -/
def sp_start_of (K : PySem.W.Frag) : Sp := fun vs H Q _ => ∃ (a : Addr) (W : List (List Nat)) (s n : Nat), vs = [.ref a, .int (n : Int)] ∧ SqT K H a (W.map vW) ∧ RuleW W s ∧ n ≤ 200 ∧
  ∀ (i : Nat) H', Same H H' → n ≤ s ^ i → (∀ j, j < i → s ^ j < n) → Q (.str (S ((growN W i).take n))) H'
theorem ok_start_of (T : Txt K mg A) : FnOk P w K mg base CX0 2 A.f_start_of A.d_start_of ["rule", "length"] (sp_start_of K) := by
  refine T.F_start_of.ok sc_start_of (fun vs H Q E h => ?_) (fun cdv A' outer s H vs Q E hr h => ?_)
  · obtain ⟨a, W, s, n, rfl, _⟩ := h
    rfl
  · obtain ⟨a, W, s, n, rfl, ha, hW, hn, k⟩ := h
    refine ⟨_, (pss_cons (ps_set (i := 2) sc_start_of.nd rfl (by first | exact Or.inl rfl | exact Or.inr rfl) pe_str)
  (pss_cons (ps_while PassesOwn.never (pt_cmpR op_lt (pe_callB call_len_str (by rfl) T.len PySem.boot_len (pa_cons (pv 2) pa_nil)) (pv 1) (nomark _)) (pss_one (ps_set (i := 2) sc_start_of.nd rfl (by first | exact Or.inl rfl | exact Or.inr rfl) (pe_call (ok_image T) hr (by rfl) T.g_image T.F_image.kp T.b_image .nil pass0 (pa_cons (pv 0) (pa_cons (pv 2) pa_nil))))))
  (pss_one (ps_ret (pe_slice sl_str (pv 2) po_none (po_some (pv 1))))))), ?_⟩
    have hs2 := hW.2.2.1
    have hs4 := hW.2.2.2.1
    have hbig : ∀ i, (∀ j, j < i → s ^ j < n) → i ≤ 8 := fun i h => Nat.le_of_not_lt fun z => by
      have h1 := h 8 z
      have h2 : 2 ^ 8 ≤ s ^ 8 := Nat.pow_le_pow_left hs2 8
      omega
    have hle : ∀ i, i ≤ 8 → s ^ i ≤ 4 ^ 8 := fun i h => Nat.le_trans (Nat.pow_le_pow_left hs4 i) (Nat.pow_le_pow_right (by decide) h)
    refine while_gh (fun m σ H' => ∃ i : Nat, m + i = 9 ∧ σ = [some (.ref a), some (.int (n : Int)), some (.str (S (growN W i)))] ∧ Same H H' ∧ ∀ j, j < i → s ^ j < n) (n := 9)
      ⟨0, rfl, rfl, Same.refl H, fun _ h => absurd h (Nat.not_lt_zero _)⟩ ?_
    rintro m σ H2 ⟨i, hm, rfl, s2, hlt⟩ R hR
    obtain ⟨g1, g2⟩ := grow_ok hW i
    have hi8 := hbig i hlt
    have hl8 := hle i hi8
    refine ⟨_, rfl, _, rfl, by rw [len_S, sizeLine_eq, g1]; omega, _, rfl, _, _, rfl, rfl, _, rfl, hR _ _ ?_⟩
    clear hR
    rw [len_S, g1]
    by_cases hc : s ^ i < n
    · rw [decide_eq_true (by omega)]
      refine iteT ⟨_, rfl, _, rfl, a, W, growN W i, rfl, same_tup s2 ha, hW.2.1, fun w hw => by rw [(hW.2.2.2.2 w hw).1]; exact hs4, by omega, g2, fun H3 S3 => ?_⟩
      have hlt2 : ∀ j, j < i + 1 → s ^ j < n := fun j hj => by
        rcases Nat.lt_or_ge j i with h | h
        · exact hlt j h
        · rw [show j = i by omega]; exact hc
      have hi9 := hbig (i + 1) hlt2
      exact ⟨m - 1, by omega, i + 1, by omega, rfl, s2.trans S3, hlt2⟩
    · rw [decide_eq_false (by omega)]
      refine iteF ⟨_, rfl, ?_⟩
      dsimp only [tNoPart]
      refine ⟨_, rfl, _, rfl, _, rfl, by rw [len_S, sizeLine_eq, g1]; omega, ?_⟩
      rw [cutS_S, cutL_pre]
      exact k i H2 s2 (by omega) hlt

/-! ### rule_start -/
def sp_rule_start (K : PySem.W.Frag) : Sp := fun vs H Q _ => ∃ (a : Addr) (W : List (List Nat)) (s n : Nat), vs = [.ref a, .int (n : Int)] ∧ SqT K H a (W.map vW) ∧ RuleP W ∧ RuleW W s ∧ n ≤ 200 ∧
  ∀ (i : Nat) H', Same H H' → n ≤ s ^ i → (∀ j, j < i → s ^ j < n) → Q (.str (S ((growN W i).take n))) H'
theorem ok_rule_start (T : Txt K mg A) : FnOk P w K mg base CX0 5 A.f_rule_start A.d_rule_start ["rule", "length"] (sp_rule_start K) := by
  refine T.F_rule_start.ok sc_rule_start (fun vs H Q E h => ?_) (fun cdv A' outer s0 H vs Q E hr h => ?_)
  · obtain ⟨a, W, s, n, rfl, _⟩ := h
    rfl
  · obtain ⟨a, W, s, n, rfl, ha, hP, hW, hn, k⟩ := h
    refine ⟨_, (pss_cons (ps_expr (pe_call (ok_need_rule T) hr (by rfl) T.g_need_rule T.F_need_rule.kp T.b_need_rule .nil pass0 (pa_cons (pv 0) pa_nil)))
  (pss_cons (ps_expr (pe_call (ok_need_integer T) (hr.mono (by decide)) (by rfl) T.g_need_integer T.F_need_integer.kp T.b_need_integer .nil pass0 (pa_cons (pv 1) (pa_cons pe_int (pa_cons (pe_glob (v := .int 200) (by rfl) T.g_LONGEST_START ⟨_, rfl⟩) pa_nil)))))
  (pss_one (ps_ret (pe_call (ok_start_of T) (hr.mono (by decide)) (by rfl) T.g_start_of T.F_start_of.kp T.b_start_of .nil pass0 (pa_cons (pv 0) (pa_cons (pv 1) pa_nil))))))), ?_⟩
    refine ⟨_, rfl, a, W, rfl, ha, hP, fun H1 S1 => ?_⟩
    refine ⟨_, rfl, _, .int n, 0, 200, rfl, .int _, ?_, ?_⟩
    · show (decide ((0 : Int) ≤ (n : Int)) && decide ((n : Int) ≤ 200)) = true
      rw [decide_eq_true (by omega), decide_eq_true (by omega)]
      rfl
    · exact ⟨_, rfl, _, rfl, a, W, s, n, rfl, same_tup S1 ha, hW, hn, fun i H' s' h1 h2 => k i H' (S1.trans s') h1 h2⟩

/-! ### standing_in_images -/
def sp_standing_in_images (K : PySem.W.Frag) : Sp := fun vs H Q _ => ∃ (a d : Addr) (W : List (List Nat)) (s n : Nat) (ws : List (List Nat)), vs = [.ref a, .ref d, .int (n : Int)] ∧ SqT K H a (W.map vW) ∧ RuleW W s ∧ 1 ≤ n ∧ n ≤ 16 ∧ H d = some (.dK (kvW ws)) ∧ ws.length * (n + 1 - reachL n s) ≤ 4000 ∧
  (∀ w ∈ ws, w.length = n ∧ ∀ c ∈ w, 97 ≤ c ∧ c < 97 + W.length) ∧
  ∀ (b : Addr) (zs : List (Addr × WC)) H', H b = none → Same H H' → H' b = some (.lst (zs.map vZ)) → AtZ H' zs → zs.length ≤ 32000 → (∀ q, q ∈ zs.map (·.2) ↔ ∃ w ∈ ws, q ∈ rowsW n s (imgL W w)) → Q (.ref b) H'
set_option maxHeartbeats 4000000 in
theorem ok_standing_in_images (T : Txt K mg A) : FnOk P w K mg base CX0 2 A.f_standing_in_images A.d_standing_in_images ["rule", "words", "length"] (sp_standing_in_images K) := by
  refine T.F_standing_in_images.ok sc_standing_in_images (fun vs H Q E h => ?_) (fun cdv A' outer s0 H vs Q E hr h => ?_)
  · obtain ⟨a, d, W, s, n, ws, rfl, _⟩ := h
    rfl
  · obtain ⟨a, d, W, s, n, ws, rfl, ha, hW, hn1, hn, hd, hl, hws, k⟩ := h
    refine ⟨_, (pss_cons (ps_set (i := 3) sc_standing_in_images.nd rfl (by first | exact Or.inl rfl | exact Or.inr rfl) (pe_callB call_len_str (by rfl) T.len PySem.boot_len (pa_cons (pe_ix (ix_tupK (K := K)) (pv 0) pe_int (fun _ _ => rfl)) pa_nil)))
  (pss_cons (ps_set (i := 4) sc_standing_in_images.nd rfl (by first | exact Or.inl rfl | exact Or.inr rfl) (pe_op op_add (pe_op op_fdiv (pe_op op_sub (pe_op op_add (pv 2) (pv 3)) pe_int) (pv 3)) pe_int))
  (pss_cons (ps_set (i := 5) sc_standing_in_images.nd rfl (by first | exact Or.inl rfl | exact Or.inr rfl) (pe_callB (cr_sortSetSA rfl) (by rfl) T.sorted (by decide +kernel) (pa_cons (pe_callTy (cr_setKeys rfl) (by rfl) T.set (by decide +kernel) (pa_cons (pe_lock (pe_lc2 (own := [("word", 7), ("at", 8)]) (vs1 := [8]) (g := gName 7) (g1 := gName 8) (tt := tYes) (tt1 := tYes) (by rfl) sc_standing_in_images.nd (pi_keys (pv 1)) (blkOk_by (own := [("word", 7), ("at", 8)]) (N := ["rule", "words", "length", "size", "reached", "parts", "texts", "word", "at", "part", "text"]) (sc := defScope s_standing_in_images) (by decide +kernel)) (by decide) (fun _ _ _ _ _ => (pg_name (i := 7) sc_standing_in_images.nd rfl (by first | exact Or.inl rfl | exact Or.inr rfl))) (fun _ _ _ _ _ => pts_nil) (fun _ _ _ _ _ => (pi_range1 (by rfl) T.range (pa_cons (pe_op op_add (pe_op op_sub (pv 2) (pv 4)) pe_int) pa_nil))) (fun _ _ _ _ _ => (pg_name (i := 8) sc_standing_in_images.nd rfl (by first | exact Or.inl rfl | exact Or.inr rfl))) (fun _ _ _ _ _ => pts_nil) (fun _ _ _ _ _ => (pe_slice sl_str (pv 7) (po_some (pv 8)) (po_some (pe_op op_add (pv 8) (pv 4))))))) pa_nil)) pa_nil)))
  (pss_cons (ps_setLc (i := 6) (own := [("part", 9)]) (g := gName 9) (tt := tYes) (by rfl) sc_standing_in_images.nd rfl rfl (sw_true rfl rfl rfl (by decide +kernel)) (pi_list (pv 5)) (blkOk_by (own := [("part", 9)]) (N := ["rule", "words", "length", "size", "reached", "parts", "texts", "word", "at", "part", "text"]) (sc := defScope s_standing_in_images) (by decide +kernel)) (fun _ _ _ _ _ => (pg_name (i := 9) sc_standing_in_images.nd rfl (by first | exact Or.inl rfl | exact Or.inr rfl))) (fun _ _ _ _ _ => pts_nil) (fun _ _ _ _ _ => (pe_call (ok_image T) hr (by rfl) T.g_image T.F_image.kp T.b_image .nil pass0 (pa_cons (pv 0) (pa_cons (pv 9) pa_nil)))))
  (pss_one (ps_ret (pe_lc2 (own := [("text", 10), ("at", 8)]) (vs1 := [8]) (g := gName 10) (g1 := gName 8) (tt := tYes) (tt1 := tYes) (by rfl) sc_standing_in_images.nd (pi_list (pv 6)) (blkOk_by (own := [("text", 10), ("at", 8)]) (N := ["rule", "words", "length", "size", "reached", "parts", "texts", "word", "at", "part", "text"]) (sc := defScope s_standing_in_images) (by decide +kernel)) (by decide) (fun _ _ _ _ _ => (pg_name (i := 10) sc_standing_in_images.nd rfl (by first | exact Or.inl rfl | exact Or.inr rfl))) (fun _ _ _ _ _ => pts_nil) (fun _ _ _ _ _ => (pi_range1 (by rfl) T.range (pa_cons (pe_op op_add (pe_op op_sub (pe_callB call_len_str (by rfl) T.len PySem.boot_len (pa_cons (pv 10) pa_nil)) (pv 2)) pe_int) pa_nil))) (fun _ _ _ _ _ => (pg_name (i := 8) sc_standing_in_images.nd rfl (by first | exact Or.inl rfl | exact Or.inr rfl))) (fun _ _ _ _ _ => pts_nil) (fun _ _ _ _ _ => (pe_tup (pa_cons (pe_slice sl_str (pv 10) (po_some (pv 8)) (po_some (pe_op op_add (pv 8) (pv 2)))) (pa_cons (pe_op op_mod (pv 8) (pv 3)) pa_nil))))))))))), ?_⟩
    have hsz : sizeLine = 16777216 := sizeLine_eq
    have hs2 := hW.2.2.1
    have hs4 := hW.2.2.2.1
    obtain ⟨w0, hw0⟩ : ∃ w0, W[0]? = some w0 := ⟨_, List.getElem?_eq_getElem (by have := hW.1; omega)⟩
    have hw0s := (hW.2.2.2.2 w0 (List.mem_of_getElem? hw0)).1
    have hv0 : (W.map vW)[0]? = some (vW w0) := by rw [List.getElem?_map, hw0]; rfl
    refine ⟨_, rfl, a, _, _, vW w0, rfl, rfl, ha, atI_nat hv0, S w0, rfl, by rw [len_S]; omega, ?_⟩
    rw [len_S, hw0s]
    have er : ((n : Int) + (s : Int) - 2) / (s : Int) + 1 = ((reachL n s : Nat) : Int) := by
      unfold reachL
      rw [show ((n : Int) + (s : Int) - 2) = ((n + s - 2 : Nat) : Int) by omega, ← Int.natCast_ediv]
      omega
    refine ⟨_, rfl, _, rfl, _, _, rfl, rfl, _, _, rfl, rfl, _, rfl, _, _, rfl, rfl, ⟨by omega, by omega⟩, _, _, rfl, rfl, ?_⟩
    dsimp only
    rw [er]
    have rl := reach_le hn1 hs2
    have rb := reach_big hn1 hs2
    have r1 : 1 ≤ reachL n s := Nat.succ_le_succ (Nat.zero_le _)
    generalize hrr : reachL n s = r at *
    -- the parts
    refine ⟨d, _, hd, trivial, fun od => ?_⟩
    generalize hF : upd H d _ = HF
    obtain ⟨BF, eF⟩ := pt hF
    clear hF
    have hw2 := hW.1
    have hcode : ∀ w ∈ ws, w.length = n := fun w h => (hws w h).1
    have hps : ∀ i, ((ws.take i).flatMap (winL r)).length ≤ 4000 := fun i => by
      have h1 := flat_le (f := winL r) (m := n + 1 - r) (l := ws.take i) fun w hw => by rw [win_many, hcode w (List.mem_of_mem_take hw)]; exact Nat.le_refl _
      have h2 : (ws.take i).length * (n + 1 - r) ≤ ws.length * (n + 1 - r) := Nat.mul_le_mul_right _ (by rw [List.length_take]; omega)
      omega
    have wk : Walk (Itk d od (kvW ws)) ws.length (fun H => H d = some (.frz od (.dK (kvW ws)))) (fun i H x H' => H' = H ∧ ∃ k v, (kvW ws)[i]? = some (k, v) ∧ x = kV k) := by
      have z := walk_keys (d := d) (o := od) (kvs := kvW ws)
      rwa [show (kvW ws).length = ws.length from List.length_map ..] at z
    refine ⟨_, rfl, d, od, rfl, .inl ⟨_, eF, fun D hD => ?_⟩⟩
    have nDd : D ≠ d := (ne_of_none eF hD).symm
    refine lc2_it wk (fun i H' => Same HF H' ∧ H' D = some (.lst (((ws.take i).flatMap (winL r)).map vW))) ⟨Same.new hD, upd_same⟩ (fun i H' _ h => h.1 _ _ eF) ?_ ?_
    · rintro i x H3 H4 hi ⟨s3, e3⟩ ⟨rfl, ky, v, hk, rfl⟩
      obtain ⟨w, hw⟩ : ∃ w, ws[i]? = some w := ⟨_, List.getElem?_eq_getElem hi⟩
      have hky : ky = .inr (S w) := by
        unfold kvW at hk
        rw [List.getElem?_map, hw] at hk
        exact (Prod.mk.inj (Option.some.inj hk)).1.symm
      subst hky
      have hwm := List.mem_of_getElem? hw
      have tk : ws.take (i + 1) = ws.take i ++ [w] := take_snoc hw
      refine ⟨rfl, yesT ?_⟩
      have wl := hcode w hwm
      refine ⟨_, rfl, _, rfl, _, _, rfl, rfl, _, _, rfl, rfl, _, rfl, by omega, by omega, ?_⟩
      have wk1 : Walk (Itr 0 (((n : Int) - (r : Int) + 1).toNat)) (n + 1 - r) (fun _ => True) (YFn vN) := by
        rw [show ((n : Int) - (r : Int) + 1).toNat = n + 1 - r by omega]
        exact walk_rangeN
      refine lc_in wk1 (fun j H' => Same HF H' ∧ H' D = some (.lst (((ws.take i).flatMap (winL r) ++ (winL r w).take j).map vW))) ⟨s3, by rw [List.take_zero, List.append_nil]; exact e3⟩ (fun _ _ _ _ => trivial) ?_ ?_
      · rintro j x H5 H6 hj ⟨s5, e5⟩ ⟨rfl, rfl⟩
        have hjw : j < w.length + 1 - r := by rw [wl]; exact hj
        have hwj := win_at (n := r) hjw
        refine ⟨rfl, yesT ⟨_, rfl, _, rfl, _, rfl, _, rfl, _, rfl, _, _, rfl, rfl, _, rfl, S w, rfl, by rw [len_S]; omega, ?_⟩⟩
        rw [cutS_S, show ((j : Int) + (r : Int)) = ((j + r : Nat) : Int) by omega, cutL_mid, List.drop_take, Nat.add_sub_cancel_left]
        have hl2 := hps (i + 1)
        rw [tk, List.flatMap_append, List.length_append, List.flatMap_cons, List.flatMap_nil, List.append_nil, win_many] at hl2
        refine ⟨_, e5, by rw [List.length_map, List.length_append, List.length_take]; omega, s5.own hD, ?_⟩
        rw [upd_same, take_snoc hwj, ← List.append_assoc]
        show some (HO.lst (((ws.take i).flatMap (winL r) ++ (winL r w).take j).map vW ++ [(w.drop j).take r].map vW)) = _
        rw [← List.map_append]
      · rintro H5 ⟨s5, e5⟩
        refine ⟨s5, ?_⟩
        rw [e5, tk, List.flatMap_append, List.flatMap_cons, List.flatMap_nil, List.append_nil, List.take_of_length_le (l := winL r w) (by rw [win_many, wl]; exact Nat.le_refl _)]
    · rintro H3 ⟨s3, e3⟩
      rw [List.take_length] at e3
      refine ⟨s3 _ _ eF, ?_⟩
      have SR : Same H (upd H3 d (.dK (kvW ws))) := unlock_same BF s3 hd
      have eR : upd H3 d (.dK (kvW ws)) D = some (.lst ((ws.flatMap (winL r)).map vW)) := by rw [upd_ne nDd]; exact e3
      generalize hR : upd H3 d (.dK (kvW ws)) = HR at SR eR ⊢
      clear hR
      have hpl := hps ws.length
      rw [List.take_length] at hpl
      refine ⟨(ws.flatMap (winL r)).map (fun m => Sum.inr (S m)), .inl ⟨D, rfl, .inl (SqL.of (by rw [List.map_map]; exact eR))⟩, by rw [List.length_map]; exact hpl, fun p np => ?_⟩
      generalize hP : upd HR p _ = HP
      obtain ⟨SP, eP⟩ := nw hP np
      clear hP
      refine ⟨p, _, rfl, eP, hpl, fun ys q hnd hmem _ nq => ?_⟩
      generalize hQ : upd HP q _ = HQ
      obtain ⟨SQ, eQ⟩ := nw hQ nq
      clear hQ
      have S1 := (SR.trans SP).trans SQ
      have hyl : ys.length ≤ 4000 := Nat.le_trans (nodup_len hnd fun x hx => (hmem x).mp hx) hpl
      have hyin : ∀ v ∈ ys, v.length = r ∧ ∀ c ∈ v, 97 ≤ c ∧ c < 97 + W.length := fun v hv => by
        obtain ⟨w, hw, h⟩ := List.mem_flatMap.mp ((hmem v).mp hv)
        exact ⟨win_len h, fun c hc => (hws w hw).2 c (win_sub h c hc)⟩
      -- the texts
      refine ⟨_, rfl, q, rfl, ⟨_, SqL.of eQ⟩, fun D2 hD2 => ?_⟩
      have wk2 : Walk (Itl K q) ys.length (fun H => SqL K H q (ys.map vW)) (YAt (ys.map vW)) := by
        have z := walk_list (K := K) (a := q) (xs := ys.map vW)
        rwa [List.length_map] at z
      refine lc_map ys (fun v => vW (imgL W v)) wk2 hD2 (by omega) (fun H' s => SqL.of (s _ _ eQ)) ?_ ?_
      · rintro i v x H4 H5 R hv s4 ⟨rfl, hx⟩ hR
        rw [List.getElem?_map, hv] at hx
        obtain rfl := Option.some.inj hx
        obtain ⟨v1, v2⟩ := hyin v (List.mem_of_getElem? hv)
        refine ⟨rfl, _, rfl, _, rfl, a, W, v, rfl, same_tup (S1.trans s4) ha, hW.2.1, fun w hw => by rw [(hW.2.2.2.2 w hw).1]; exact hs4, by omega, v2, fun H6 S6 => hR H6 S6⟩
      intro H4 S4 e4
      have S14 := S1.trans S4
      have e4' : H4 D2 = some (.lst ((ys.map (imgL W)).map vW)) := by rw [List.map_map]; exact e4
      have htl : ∀ t ∈ ys.map (imgL W), t.length = r * s := fun t ht => by
        obtain ⟨v, hv, rfl⟩ := List.mem_map.mp ht
        rw [(img_in hW (hyin v hv).2).1, (hyin v hv).1]
      have htn : (ys.map (imgL W)).length ≤ 4000 := by rw [List.length_map]; exact hyl
      have hfin : ∀ q, (∃ t ∈ ys.map (imgL W), q ∈ rowsW n s t) ↔ ∃ w ∈ ws, q ∈ rowsW n s (imgL W w) := fun u => by
        constructor
        · rintro ⟨t, ht, hu⟩
          obtain ⟨v, hv, rfl⟩ := List.mem_map.mp ht
          obtain ⟨w, hw, h⟩ := List.mem_flatMap.mp ((hmem v).mp hv)
          exact ⟨w, hw, (rows_img hW hn1 (hws w hw).1 (hws w hw).2 u).mpr ⟨v, hrr ▸ h, hu⟩⟩
        · rintro ⟨w, hw, hu⟩
          obtain ⟨v, hv, hu⟩ := (rows_img hW hn1 (hws w hw).1 (hws w hw).2 u).mp hu
          exact ⟨_, List.mem_map_of_mem ((hmem v).mpr (List.mem_flatMap.mpr ⟨w, hw, hrr ▸ hv⟩)), hu⟩
      generalize ys.map (imgL W) = ts at *
      -- what stands in them
      refine ⟨_, rfl, D2, rfl, ⟨_, SqL.of e4'⟩, fun D3 hD3 => ?_⟩
      have rs2 : r * s + 1 - n ≤ 2 * s := by
        have h1 := Nat.div_add_mod (n + s - 2) s
        rw [← hrr]
        unfold reachL
        rw [Nat.add_mul, Nat.one_mul, Nat.mul_comm]
        omega
      have hrows : ∀ i, ((ts.take i).flatMap (rowsW n s)).length ≤ 4000 * 8 := fun i => by
        have h1 := flat_le (f := rowsW n s) (m := 8) (l := ts.take i) fun t ht => by rw [rows_len, htl t (List.mem_of_mem_take ht)]; omega
        have h2 : (ts.take i).length ≤ ts.length := by rw [List.length_take]; omega
        omega
      have wk3 : Walk (Itl K D2) ts.length (fun H => SqL K H D2 (ts.map vW)) (YAt (ts.map vW)) := by
        have z := walk_list (K := K) (a := D2) (xs := ts.map vW)
        rwa [List.length_map] at z
      have rs800 : r * s ≤ 16 * 4 := Nat.mul_le_mul (by omega) hs4
      refine lc2_it wk3 (fun i H' => Same H4 H' ∧ ∃ zs : List (Addr × WC), H' D3 = some (.lst (zs.map vZ)) ∧ AtZ H' zs ∧ zs.map (·.2) = (ts.take i).flatMap (rowsW n s)) ⟨Same.new hD3, [], upd_same, fun _ h => (nomatch h), rfl⟩ (fun i H' _ h => SqL.of (h.1 _ _ e4')) ?_ ?_
      · rintro i x H5 H6 hi ⟨s5, zs, e5, az, ez⟩ ⟨rfl, hx⟩
        rw [List.getElem?_map] at hx
        obtain ⟨t, ht, rfl⟩ := Option.map_eq_some_iff.mp hx
        have tl := htl t (List.mem_of_getElem? ht)
        have tk : ts.take (i + 1) = ts.take i ++ [t] := take_snoc ht
        refine ⟨rfl, yesT ?_⟩
        refine ⟨_, rfl, S t, rfl, by rw [len_S]; omega, _, rfl, _, _, rfl, rfl, _, _, rfl, rfl, _, rfl, by rw [len_S]; omega, by rw [len_S]; omega, ?_⟩
        rw [len_S, tl]
        have wk1 : Walk (Itr 0 ((((r * s : Nat) : Int) - (n : Int) + 1).toNat)) (r * s + 1 - n) (fun _ => True) (YFn vN) := by
          rw [show (((r * s : Nat) : Int) - (n : Int) + 1).toNat = r * s + 1 - n by omega]
          exact walk_rangeN
        refine lc_in wk1 (fun j H' => Same H4 H' ∧ ∃ us : List (Addr × WC), H' D3 = some (.lst (us.map vZ)) ∧ AtZ H' us ∧ us.map (·.2) = (ts.take i).flatMap (rowsW n s) ++ (rowsW n s t).take j) ⟨s5, zs, e5, az, by rw [List.take_zero, List.append_nil]; exact ez⟩ (fun _ _ _ _ => trivial) ?_ ?_
        · rintro j x H7 H8 hj ⟨s7, us, e7, au, eu⟩ ⟨rfl, rfl⟩
          have hjt : j < t.length + 1 - n := by rw [tl]; exact hj
          have hrj := rows_at (s := s) hjt
          refine ⟨rfl, yesT ⟨_, rfl, _, rfl, _, rfl, _, rfl, _, rfl, _, _, rfl, rfl, _, rfl, S t, rfl, by rw [len_S]; omega, _, rfl, _, rfl, _, _, rfl, rfl, by omega, by show 2 ≤ sizeLine; decide, ?_⟩⟩
          walk_at "n9"
          have e9' : H9 l9 = some (.tup [.str (S ((t.drop j).take n)), .int ((j % s : Nat) : Int)]) := by
            rw [e9, cutS_S, show ((j : Int) + (n : Int)) = ((j + n : Nat) : Int) by omega, cutL_mid, List.drop_take, Nat.add_sub_cancel_left]
            rfl
          have hl2 := hrows (i + 1)
          rw [tk, List.flatMap_append, List.length_append, List.flatMap_cons, List.flatMap_nil, List.append_nil, rows_len] at hl2
          have ul : us.length = ((ts.take i).flatMap (rowsW n s)).length + ((rowsW n s t).take j).length := by
            rw [← List.length_append, ← eu, List.length_map]
          have n93 : D3 ≠ l9 := ne_of_none e7 n9
          refine ⟨_, S9 _ _ e7, by rw [List.length_map, ul, List.length_take]; omega, (s7.trans S9).own hD3, us ++ [(l9, ((t.drop j).take n, j % s))], ?_, fun q hq => ?_, ?_⟩
          · rw [upd_same]
            show some (HO.lst (us.map vZ ++ [(l9, ((t.drop j).take n, j % s))].map vZ)) = _
            rw [← List.map_append]
          · have hq9 : H9 q.1 = some (.tup [.str (S q.2.1), .int (q.2.2 : Int)]) := by
              rcases List.mem_append.mp hq with h | h
              · exact S9 _ _ (au q h)
              · rw [List.mem_singleton.mp h]; exact e9'
            rw [upd_ne (ne_of hq9 (S9 _ _ e7) fun e => by cases e)]
            exact hq9
          · rw [List.map_append, eu, take_snoc hrj, List.append_assoc]
            rfl
        · rintro H7 ⟨s7, us, e7, au, eu⟩
          refine ⟨s7, us, e7, au, ?_⟩
          rw [eu, tk, List.flatMap_append, List.flatMap_cons, List.flatMap_nil, List.append_nil, List.take_of_length_le (l := rowsW n s t) (by rw [rows_len, tl]; exact Nat.le_refl _)]
      · rintro H5 ⟨s5, zs, e5, az, ez⟩
        rw [List.take_length] at ez
        have zl : zs.length ≤ 32000 := by
          have := hrows ts.length
          rw [List.take_length, ← ez, List.length_map] at this
          exact this
        refine k D3 zs H5 (S14.free hD3) (S14.trans s5) e5 az zl fun u => ?_
        rw [← hfin u, ez, List.mem_flatMap]

/-! ### is_rule_word, of any value -/
def rwD (m : Nat) (d : PyData) : Bool := wordD d && allIn (strOf d) (smallL.take m)
theorem rwD_yes {m : Nat} {w : List Nat} (h4 : m ≤ 4) (hl : w.length ≤ 200) (hc : ∀ c ∈ w, 97 ≤ c ∧ c < 97 + m) : rwD m (.str (S w)) = true := by
  have h2 : allIn w (smallL.take m) = true := allIn_iff.mpr fun c h => (small_take h4 c).mpr (hc c h)
  show ((dStr (.str (S w)) && (decide (w.length ≤ 200) && allIn w smallL)) && allIn w (smallL.take m)) = true
  rw [decide_eq_true hl, show dStr (.str (S w)) = true from rfl, Bool.true_and, Bool.true_and, h2, Bool.and_true]
  exact allIn_iff.mpr fun c h => List.mem_of_mem_take ((small_take h4 c).mpr (hc c h))
theorem rwD_in {m : Nat} {d : PyData} (h4 : m ≤ 4) (h : rwD m d = true) : ∃ w, d = .str (S w) ∧ w.length ≤ 200 ∧ ∀ c ∈ w, 97 ≤ c ∧ c < 97 + m := by
  unfold rwD at h
  rw [Bool.and_eq_true] at h
  obtain ⟨h1, h2⟩ := h
  obtain ⟨w, rfl⟩ : ∃ m, d = .str (S m) := by
    cases d with
    | str z => exact ⟨z.cps.toList, rfl⟩
    | _ => cases h1
  exact ⟨w, rfl, (wordD_dW.mp h1).hi, fun c hc => (small_take h4 c).mp (allIn_iff.mp h2 c hc)⟩
def sp_is_rule_word (K : PySem.W.Frag) : Sp := fun vs H Q _ => ∃ (a : Addr) (W : List (List Nat)) (x : V) (d : PyData), vs = [.ref a, x] ∧ SqT K H a (W.map vW) ∧ Dp K H x d ∧ (strOf d).length ≤ 200000 ∧ ∀ H', Same H H' → Q (.bl (rwD W.length d)) H'
theorem ok_is_rule_word (T : Txt K mg A) : FnOk P w K mg base CX0 3 A.f_is_rule_word A.d_is_rule_word ["rule", "value"] (sp_is_rule_word K) := by
  refine T.F_is_rule_word.ok sc_is_rule_word (fun vs H Q E h => ?_) (fun cdv A' outer s H vs Q E hr h => ?_)
  · obtain ⟨a, W, x, d, rfl, _⟩ := h
    rfl
  · obtain ⟨a, W, x, d, rfl, ha, hd, hl, k⟩ := h
    refine ⟨_, (pss_one (ps_ret (pe_and (pe_call (ok_is_word T) hr (by rfl) T.g_is_word T.F_is_word.kp T.b_is_word .nil pass0 (pa_cons (pv 1) pa_nil)) (pe_one (pe_call (ok_has_only T) (hr.mono (by decide)) (by rfl) T.g_has_only T.F_has_only.kp T.b_has_only .nil pass0 (pa_cons (pv 1) (pa_cons (pe_slice sl_str (pe_glob (v := .str "abcdefghijklmnopqrstuvwxyz") (by rfl) T.g_SMALL ⟨_, rfl⟩) po_none (po_some (pe_callB (call_lenK (K := K)) (by rfl) T.len PySem.boot_len (pa_cons (pv 0) pa_nil)))) pa_nil))))))), ?_⟩
    refine ⟨_, rfl, x, d, rfl, hd, hl, _, rfl, ?_⟩
    unfold rwD at k
    cases q1 : wordD d with
    | false =>
      rw [q1, Bool.false_and] at k
      exact iteF (k H (Same.refl H))
    | true =>
      rw [q1, Bool.true_and] at k
      refine iteT ?_
      obtain ⟨m, rfl⟩ : ∃ m, d = .str (S m) := by
        cases d with
        | str z => exact ⟨z.cps.toList, rfl⟩
        | _ => cases q1
      cases hd
      dsimp only [tNoPart]
      refine ⟨_, rfl, _, rfl, a, _, rfl, .inr ha, _, rfl, _, rfl, by decide +kernel, ?_⟩
      rw [smallS, cutS_S, List.length_map, cutL_pre]
      exact ⟨m, _, rfl, k H (Same.refl H)⟩

/-! ### _is_cut_row -/
def sp_is_cut_row (K : PySem.W.Frag) : Sp := fun vs H Q _ => ∃ (a : Addr) (W : List (List Nat)) (s n : Nat) (x : V) (d : PyData), vs = [.ref a, .int (n : Int), x] ∧ SqT K H a (W.map vW) ∧ RuleW W s ∧ n ≤ 200 ∧ Dp K H x d ∧ RowFine 200000 d ∧ ∀ H', Same H H' → Q (.bl (rowB W s n d)) H'
theorem ok_is_cut_row (T : Txt K mg A) : FnOk P w K mg base CX0 4 A.f_is_cut_row A.d_is_cut_row ["rule", "length", "value"] (sp_is_cut_row K) := by
  refine T.F_is_cut_row.ok sc_is_cut_row (fun vs H Q E h => ?_) (fun cdv A' outer s0 H vs Q E hr h => ?_)
  · obtain ⟨a, W, s, n, x, d, rfl, _⟩ := h
    rfl
  · obtain ⟨a, W, s, n, x, d, rfl, ha, hW, hn, hd, hit, k⟩ := h
    refine ⟨_, (pss_cons (ps_if (PW.pt (pw_or (pt_not (pt_val (pe_callB call_isi (by rfl) T.isinstance PyProof.Rows.boot_isinstance (pa_cons (pv 2) (pa_cons (pe_bltn (v := .ty "tuple") (by rfl) T.tuple (by decide +kernel) rfl) pa_nil))))) (pw_or1 (pt_cmpR op_ne (pe_callB (call_lenK (K := K)) (by rfl) T.len PySem.boot_len (pa_cons (pv 2) pa_nil)) pe_int (nomark _))))) (pss_one (ps_ret pe_bl)) pss_nil)
  (pss_cons (ps_set (i := 3) sc_is_cut_row.nd rfl (by first | exact Or.inl rfl | exact Or.inr rfl) (pe_and (pe_call (ok_is_rule_word T) hr (by rfl) T.g_is_rule_word T.F_is_rule_word.kp T.b_is_rule_word .nil pass0 (pa_cons (pv 0) (pa_cons (pe_ix (ix_tupK (K := K)) (pv 2) pe_int (fun _ _ => rfl)) pa_nil))) (pe_one (pe_cmpR op_eq (pe_callB call_len_str (by rfl) T.len PySem.boot_len (pa_cons (pe_ix (ix_tupK (K := K)) (pv 2) pe_int (fun _ _ => rfl)) pa_nil)) (pv 1) (nomark _)))))
  (pss_one (ps_ret (pe_and (pv 3) (pe_one (pe_call (ok_is_integer_from T) (hr.mono (by decide)) (by rfl) T.g_is_integer_from T.F_is_integer_from.kp T.b_is_integer_from .nil pass0 (pa_cons (pe_ix (ix_tupK (K := K)) (pv 2) pe_int (fun _ _ => rfl)) (pa_cons pe_int (pa_cons (pe_op op_sub (pe_callB call_len_str (by rfl) T.len PySem.boot_len (pa_cons (pe_ix (ix_tupK (K := K)) (pv 0) pe_int (fun _ _ => rfl)) pa_nil)) pe_int) pa_nil)))))))))), ?_⟩
    have hsz : sizeLine = 16777216 := sizeLine_eq
    have hs2 := hW.2.2.1
    have hs4 := hW.2.2.2.1
    have hw4 := hW.2.1
    obtain ⟨w0, hw0⟩ : ∃ w0, W[0]? = some w0 := ⟨_, List.getElem?_eq_getElem (by have := hW.1; omega)⟩
    have hw0s := (hW.2.2.2.2 w0 (List.mem_of_getElem? hw0)).1
    have hv0 : (W.map vW)[0]? = some (vW w0) := by rw [List.getElem?_map, hw0]; rfl
    have no : (∀ p, pairOf d = some p → ¬ PIn W s n p) → ∀ H', Same H H' → Q (.bl false) H' := fun h H' s' => rowB_no h ▸ k H' s'
    refine ⟨_, rfl, _, _, _, _, _, rfl, .ty _, dp_ty hd, kit_tup d, _, rfl, ?_⟩
    cases hd with
    | non => exact iteT (no (fun p e => nomatch e) H (Same.refl H))
    | bl b => exact iteT (no (fun p e => nomatch e) H (Same.refl H))
    | int i => exact iteT (no (fun p e => nomatch e) H (Same.refl H))
    | str z => exact iteT (no (fun p e => nomatch e) H (Same.refl H))
    | lst h1 h2 => exact iteT (no (fun p e => nomatch e) H (Same.refl H))
    | @tup t ys ds h1 h2 =>
      have hlen := dpAll_len h2
      have hit := hit ds rfl
      refine iteF ⟨_, rfl, t, _, rfl, .inr h1, rfl, _, rfl, ?_⟩
      by_cases hl2 : ds.length = 2
      · rw [show (!decide (V.int (ys.length : Int) = V.int 2)) = false by rw [hlen, hl2]; rfl]
        obtain ⟨g1, g2, rfl⟩ : ∃ g1 g2, ds = [g1, g2] := by
          match ds, hl2 with
          | [g1, g2], _ => exact ⟨g1, g2, rfl⟩
        cases h2 with
        | @cons x1 _ r1 _ hx1 h3 =>
        cases h3 with
        | @cons x2 _ r2 _ hx2 h4 =>
        cases h4
        refine iteF ?_
        refine ⟨_, rfl, _, rfl, t, _, _, x1, rfl, rfl, h1, atI_nat (j := 0) rfl, a, W, x1, g1, rfl, ha, hx1, (hit g1 (by simp)).1, fun H1 S1 => ?_⟩
        refine ⟨_, rfl, ?_⟩
        cases q1 : rwD W.length g1 with
        | false =>
          refine iteF ⟨_, rfl, _, rfl, iteF (no (fun p e hp => ?_) _ S1)⟩
          have e2 := pairOf_some e
          unfold dP at e2
          have e3 := PyData.tuple.inj e2
          rw [(List.cons.inj e3).1, rwD_yes hw4 (by have := hp.1; omega) hp.2.1] at q1
          cases q1
        | true =>
          obtain ⟨m, rfl, hm, hc⟩ := rwD_in hw4 q1
          cases hx1
          refine iteT ⟨_, rfl, t, _, _, V.str (S m), rfl, rfl, same_tup S1 h1, atI_nat (j := 0) rfl, S m, rfl, by rw [len_S]; omega, _, rfl, rfl, _, rfl, ?_⟩
          rw [len_S]
          by_cases hmn : m.length = n
          · rw [show decide (V.int (m.length : Int) = V.int (n : Int)) = true by rw [hmn]; simp]
            refine ⟨_, rfl, iteT ?_⟩
            refine ⟨_, rfl, t, _, _, x2, rfl, rfl, same_tup S1 h1, atI_nat (j := 1) rfl, _, rfl, a, _, _, vW w0, rfl, rfl, same_tup S1 ha, atI_nat hv0, S w0, rfl, by rw [len_S]; omega, _, _, rfl, rfl, x2, g2, 0, _, rfl, dp_same S1 _ _ hx2, ?_⟩
            rw [len_S, hw0s]
            have e : rowB W s n (.tuple [.str (S m), g2]) = inRange g2 0 ((s : Int) - 1) := by
              cases g2 with
              | int i =>
                show _ = (decide ((0 : Int) ≤ i) && decide (i ≤ (s : Int) - 1))
                by_cases h0 : 0 ≤ i
                · obtain ⟨c, rfl⟩ : ∃ c : Nat, i = (c : Int) := ⟨i.toNat, by omega⟩
                  rw [decide_eq_true h0, Bool.true_and]
                  by_cases h1 : c < s
                  · rw [decide_eq_true (by omega)]
                    exact row_yes (pairOf_dP (m, c)) ⟨hmn, hc, h1⟩
                  · rw [decide_eq_false (by omega)]
                    refine rowB_no fun p e hp => ?_
                    rw [show pairOf (PyData.tuple [.str (S m), .int (c : Int)]) = some (m, c) from pairOf_dP (m, c)] at e
                    obtain rfl := Option.some.inj e
                    exact h1 hp.2.2
                · rw [decide_eq_false h0, Bool.false_and]
                  refine rowB_no fun p e hp => ?_
                  have e2 := pairOf_some e
                  unfold dP at e2
                  have e3 := PyData.int.inj (List.cons.inj (List.cons.inj (PyData.tuple.inj e2)).2).1
                  omega
              | _ => exact rowB_no fun p e hp => by cases e
            rw [← e]
            exact k _ S1
          · rw [show decide (V.int (m.length : Int) = V.int (n : Int)) = false from decide_eq_false fun z => hmn (by have := V.int.inj z; omega)]
            refine ⟨_, rfl, iteF (no (fun p e hp => ?_) _ S1)⟩
            have e2 := pairOf_some e
            unfold dP at e2
            have e3 := PyData.tuple.inj e2
            have e4 := SX.S_inj (PyData.str.inj (List.cons.inj e3).1)
            exact hmn (by rw [e4]; exact hp.1)
      · rw [show (!decide (V.int (ys.length : Int) = V.int 2)) = true by
          rw [decide_eq_false fun z => hl2 (by have := V.int.inj z; omega)]; rfl]
        refine iteT (no (fun p e => ?_) H (Same.refl H))
        have e2 := pairOf_some e
        unfold dP at e2
        have e3 := PyData.tuple.inj e2
        rw [e3] at hl2
        exact absurd rfl hl2

/-! ### is_cut_list -/
def sp_is_cut_list (K : PySem.W.Frag) : Sp := fun vs H Q _ => ∃ (a : Addr) (W : List (List Nat)) (s n : Nat) (x : V) (d : PyData), vs = [.ref a, .int (n : Int), x] ∧ SqT K H a (W.map vW) ∧ RuleP W ∧ RuleW W s ∧ 1 ≤ n ∧ n ≤ 16 ∧ CV K H x d ∧
  (∀ ds, d = .list ds → ds.length * (n + 1 - reachL n s) ≤ 4000 ∧ ds.length ≤ 4000 ∧ ∀ f ∈ ds, RowFine 200000 f) ∧ ∀ H', Same H H' → Q (.bl (clD W s n (stL W s n) d)) H'
set_option maxHeartbeats 4000000 in
theorem ok_is_cut_list (T : Txt K mg A) : FnOk P w K mg base CX0 6 A.f_is_cut_list A.d_is_cut_list ["rule", "length", "value"] (sp_is_cut_list K) := by
  refine T.F_is_cut_list.ok sc_is_cut_list (fun vs H Q E h => ?_) (fun cdv A' outer s0 H vs Q E hr h => ?_)
  · obtain ⟨a, W, s, n, x, d, rfl, _⟩ := h
    rfl
  · obtain ⟨a, W, s, n, x, d, rfl, ha, hP, hW, hn1, hn, hd, hit, k⟩ := h
    refine ⟨_, (pss_cons (ps_expr (pe_call (ok_need_rule T) (hr.mono (by decide)) (by rfl) T.g_need_rule T.F_need_rule.kp T.b_need_rule .nil pass0 (pa_cons (pv 0) pa_nil)))
  (pss_cons (ps_expr (pe_call (ok_need_integer T) (hr.mono (by decide)) (by rfl) T.g_need_integer T.F_need_integer.kp T.b_need_integer .nil pass0 (pa_cons (pv 1) (pa_cons pe_int (pa_cons (pe_glob (v := .int 16) (by rfl) T.g_LONGEST_LISTED ⟨_, rfl⟩) pa_nil)))))
  (pss_cons (ps_if (pt_not (pt_val (pe_callB call_isi (by rfl) T.isinstance PyProof.Rows.boot_isinstance (pa_cons (pv 2) (pa_cons (pe_bltn (v := .ty "list") (by rfl) T.list (by decide +kernel) rfl) pa_nil))))) (pss_one (ps_ret pe_bl)) pss_nil)
  (pss_cons (ps_set (i := 3) sc_is_cut_list.nd rfl (by first | exact Or.inl rfl | exact Or.inr rfl) pe_dnewT)
  (pss_cons (ps_set (i := 4) sc_is_cut_list.nd rfl (by first | exact Or.inl rfl | exact Or.inr rfl) pe_dnewK)
  (pss_cons (ps_for PassesOwn.never rfl (pi_list (pv 2)) (pg_name (i := 5) sc_is_cut_list.nd rfl (by first | exact Or.inl rfl | exact Or.inr rfl)) (pss_cons (ps_if (pt_not (pt_val (pe_call (ok_is_cut_row T) (hr.mono (by decide)) (by rfl) T.g_is_cut_row T.F_is_cut_row.kp T.b_is_cut_row .nil pass0 (pa_cons (pv 0) (pa_cons (pv 1) (pa_cons (pv 5) pa_nil)))))) (pss_one (ps_ret pe_bl)) pss_nil)
  (pss_cons (ps_dput (hu_of hr) (pv 3) (pv 5) pe_bl rfl)
  (pss_one (ps_dput (hu_of hr) (pv 4) (pe_ix (ix_tupK (K := K)) (pv 5) pe_int (fun _ _ => rfl)) pe_bl rfl)))))
  (pss_cons (ps_if (pt_cmp (pc_dnotin (hu_of hr) (pe_tup (pa_cons (pe_call (ok_rule_start T) hr (by rfl) T.g_rule_start T.F_rule_start.kp T.b_rule_start .nil pass0 (pa_cons (pv 0) (pa_cons (pv 1) pa_nil))) (pa_cons pe_int pa_nil))) (pv 3)) rfl) (pss_one (ps_ret pe_bl)) pss_nil)
  (pss_one (ps_ret (pe_cmpR (op_eqD hr.units) (pe_lc (own := [("row", 5)]) (g := gName 5) (by rfl) sc_is_cut_list.nd (pi_list (pe_call (ok_standing_in_images T) (hr.mono (by decide)) (by rfl) T.g_standing_in_images T.F_standing_in_images.kp T.b_standing_in_images .nil pass0 (pa_cons (pv 0) (pa_cons (pv 4) (pa_cons (pv 1) pa_nil))))) (blkOk_by (own := [("row", 5)]) (N := ["rule", "length", "value", "rows", "words", "row"]) (sc := defScope s_is_cut_list) (by decide +kernel)) (fun _ _ _ _ _ => (pg_name (i := 5) sc_is_cut_list.nd rfl (by first | exact Or.inl rfl | exact Or.inr rfl))) (fun _ _ _ _ _ => (pts_one (pt_cmp (pc_dnotin (hu_of hr) (pv 5) (pv 3)) rfl))) (fun _ _ _ _ _ => (pv 5))) (pe_lst pa_nil) (nomark _))))))))))), ?_⟩
    have hsz : sizeLine = 16777216 := sizeLine_eq
    have hs2 := hW.2.2.1
    have hs4 := hW.2.2.2.1
    have hw4 := hW.2.1
    have rl := reach_le hn1 hs2
    refine ⟨_, rfl, a, W, rfl, ha, hP, fun H1 S1 => ?_⟩
    refine ⟨_, rfl, _, .int n, 1, 16, rfl, .int _, ?_, ?_⟩
    · show (decide ((1 : Int) ≤ (n : Int)) && decide ((n : Int) ≤ 16)) = true
      rw [decide_eq_true (by omega), decide_eq_true (by omega)]
      rfl
    replace k : ∀ H', Same H1 H' → Q (.bl (clD W s n (stL W s n) d)) H' := fun H' s' => k H' (S1.trans s')
    replace hd := hd.same S1
    replace ha := same_tup S1 ha
    clear S1
    refine ⟨_, rfl, _, _, _, _, _, rfl, .ty _, dp_ty hd.1, kit_list d, _, rfl, ?_⟩
    obtain ⟨hd, hrows⟩ := hd
    cases hd with
    | non => exact iteT (k H1 (Same.refl H1))
    | bl b => exact iteT (k H1 (Same.refl H1))
    | int i => exact iteT (k H1 (Same.refl H1))
    | str z => exact iteT (k H1 (Same.refl H1))
    | tup h1 h2 => exact iteT (k H1 (Same.refl H1))
    | @lst b _ ds h1 h2 =>
      clear h1 h2
      obtain ⟨b2, ys, ex, h1, h2⟩ := hrows ds rfl
      rw [← V.ref.inj ex] at h1
      replace k : ∀ H', Same H1 H' → Q (.bl (clGo W s n (stL W s n) ds)) H' := k
      obtain ⟨hl1, hl2, hit⟩ := hit ds rfl
      have hlen := h2.len
      refine iteF ?_
      refine fun p n0 => ?_
      generalize h0 : upd _ p _ = H0
      obtain ⟨S0, e0⟩ := nw h0 n0
      clear h0
      refine fun q n9 => ?_
      generalize h9 : upd _ q _ = H9
      obtain ⟨S9, e9⟩ := nw h9 n9
      clear h9
      have npq : p ≠ q := ne_of_none e0 n9
      have nq := S0.free n9
      have S09 := S0.trans S9
      have e09 := S9 _ _ e0
      refine ⟨_, rfl, b, rfl, ⟨_, same_lst S09 h1⟩, for_it (D := { nx := _, rt := Q, bk := fun _ _ => True, ct := fun _ _ => True }) (walk_list (xs := ys)) (fun i σ H' => ∃ (y5 : Option V) (us : List (List Nat)) (ps qs : List WC), σ = [some (.ref a), some (.int (n : Int)), some (.ref b), some (.ref p), some (.ref q), y5] ∧ Same H1 H' ∧ ds.take i = qs.map dP ∧ (∀ r ∈ qs, PIn W s n r) ∧ us.Nodup ∧ us.length ≤ i ∧ ps.length ≤ i ∧ (∀ w, w ∈ us ↔ ∃ r ∈ qs, r.1 = w) ∧ (∀ r, r ∈ ps ↔ r ∈ qs) ∧ H' p = some (.dT (kvWC ps)) ∧ H' q = some (.dK (kvW us)))
        ⟨none, [], [], [], rfl, S09, rfl, fun _ h => (nomatch h), List.nodup_nil, Nat.le_refl _, Nat.le_refl _, fun w => ⟨fun h => (nomatch h), fun ⟨_, h, _⟩ => nomatch h⟩, fun r => Iff.rfl, e09, e9⟩ (fun i σ H' _ h => ?_) ?_ ?_⟩
      · obtain ⟨_, _, _, _, _, s', _⟩ := h
        exact same_lst s' h1
      · rintro i x σ H2 H3 hi ⟨y5, us, ps, qs, rfl, s2, etk, hin, hnd, hul, hpl, hu, hp, ep, eq⟩ ⟨rfl, hx⟩
        obtain ⟨f, hf, hfd, hfr⟩ := (h2.same s2).at hx
        have hmem := List.mem_of_getElem? hf
        refine ⟨_, rfl, _, rfl, _, rfl, a, W, s, n, x, f, rfl, same_tup s2 ha, hW, by omega, hfd, hit f hmem, fun H4 S4 => ⟨_, rfl, ?_⟩⟩
        cases q1 : rowB W s n f with
        | false => exact iteT (cl_row hmem q1 ▸ k H4 (s2.trans S4))
        | true =>
          obtain ⟨r, rfl, hr⟩ := row_at q1
          obtain ⟨t, rfl, et⟩ := hfr r (pairOf_dP r)
          have ep4 := S4 _ _ ep
          have eq4 := S4 _ _ eq
          have et4 := S4 _ _ et
          refine iteF ⟨_, rfl, _, rfl, p, _, rfl, DPut.t (k := keyWC r) ep4 et4 (by unfold kvWC; rw [List.length_map]; omega), ?_⟩
          generalize hA : upd H4 p _ = H5
          obtain ⟨B5, f5⟩ := pt hA
          have S5 : Same H1 H5 := by rw [← hA]; exact (s2.trans S4).own n0
          clear hA
          have eq5 := B5 _ _ npq.symm eq4
          have et5 := B5 _ _ (ne_of et4 ep4 fun e => by cases e) et4
          refine ⟨_, rfl, _, rfl, t, _, _, .str (S r.1), rfl, rfl, SqT.of et5, atI_nat (j := 0) rfl, q, _, rfl, DPut.k (k := .inr (S r.1)) eq5 (by unfold kvW; rw [List.length_map]; omega), ?_⟩
          generalize hB : upd H5 q _ = H6
          obtain ⟨B6, f6⟩ := pt hB
          have S6 : Same H1 H6 := by rw [← hB]; exact S5.own nq
          clear hB
          have f56 := B6 _ _ npq f5
          have etk2 : ds.take (i + 1) = (qs ++ [r]).map dP := by rw [take_snoc hf, etk, List.map_append]; rfl
          have hin2 : ∀ x ∈ qs ++ [r], PIn W s n x := fun x hx => (List.mem_append.mp hx).elim (hin x) fun h => by rw [List.mem_singleton.mp h]; exact hr
          obtain ⟨ps2, eps, lps, hps⟩ : ∃ ps2, putK (kvWC ps) (keyWC r) (.bl true) = kvWC ps2 ∧ ps2.length ≤ i + 1 ∧ ∀ x, x ∈ ps2 ↔ x ∈ qs ++ [r] := by
            by_cases hm : r ∈ ps
            · refine ⟨ps, put_wc_old hm, by omega, fun x => ?_⟩
              rw [List.mem_append, List.mem_singleton, hp]
              exact ⟨.inl, fun h => h.elim id fun e => by rw [e]; exact (hp r).mp hm⟩
            · refine ⟨ps ++ [r], put_wc hm, by rw [List.length_append]; show _ + 1 ≤ _; omega, fun x => ?_⟩
              rw [List.mem_append, List.mem_append, hp]
          obtain ⟨us2, eus, hnd2, lus, hus⟩ : ∃ us2, putK (kvW us) (.inr (S r.1)) (.bl true) = kvW us2 ∧ us2.Nodup ∧ us2.length ≤ i + 1 ∧ ∀ w, w ∈ us2 ↔ ∃ x ∈ qs ++ [r], x.1 = w := by
            have ex : ∀ w, (∃ x ∈ qs ++ [r], x.1 = w) ↔ (∃ x ∈ qs, x.1 = w) ∨ w = r.1 := fun w => by
              constructor
              · rintro ⟨x, hx, e⟩
                rcases List.mem_append.mp hx with h | h
                · exact .inl ⟨x, h, e⟩
                · rw [List.mem_singleton.mp h] at e; exact .inr e.symm
              · rintro (⟨x, hx, e⟩ | e)
                · exact ⟨x, List.mem_append_left _ hx, e⟩
                · exact ⟨r, List.mem_append_right _ (List.mem_singleton.mpr rfl), e.symm⟩
            by_cases hm : r.1 ∈ us
            · refine ⟨us, kvW_old hm, hnd, by omega, fun w => ?_⟩
              rw [ex, ← hu w]
              exact ⟨.inl, fun h => h.elim id fun e => e ▸ hm⟩
            · refine ⟨us ++ [r.1], kvW_put hm, List.nodup_append.mpr ⟨hnd, List.nodup_cons.mpr ⟨fun h => (nomatch h), List.nodup_nil⟩, fun x hx y hy => by rw [List.mem_singleton.mp hy]; exact fun e => hm (e ▸ hx)⟩, by rw [List.length_append]; show _ + 1 ≤ _; omega, fun w => ?_⟩
              rw [ex, ← hu w, List.mem_append, List.mem_singleton]
          exact ⟨_, us2, ps2, qs ++ [r], rfl, S6, etk2, hin2, hnd2, lus, lps, hus, hps, by rw [f56, eps], by rw [f6, eus]⟩
      · rintro σ H2 ⟨y5, us, ps, qs, rfl, s2, etk, hin, hnd, hul, hpl, hu, hp, ep, eq⟩
        rw [hlen, List.take_length] at etk
        rw [hlen] at hul hpl
        subst etk
        have kt : ClP W s n (stL W s n) qs → ∀ H', Same H2 H' → Q (.bl true) H' := fun hc H' s' => cl_dP (b := true) ⟨fun _ => hc, fun _ => rfl⟩ ▸ k H' (s2.trans s')
        have kf : ¬ ClP W s n (stL W s n) qs → ∀ H', Same H2 H' → Q (.bl false) H' := fun hc H' s' => cl_dP (b := false) ⟨fun h => (nomatch h), fun h => absurd h hc⟩ ▸ k H' (s2.trans s')
        have ha2 := same_tup s2 ha
        clear k hit hlen h2
        refine ⟨_, rfl, _, rfl, a, W, s, n, rfl, ha2, hP, hW, by omega, fun i H4 S4 g1 g2 => ?_⟩
        rw [stL_of g1 g2]
        have st0 := stL_in hW (show n ≤ 200 by omega)
        generalize stL W s n = st at *
        refine ⟨by show 2 ≤ sizeLine; decide, ?_⟩
        walk_at "n5"
        have e5' : H5 l5 = some (.tup ((keyWC (st, 0)).map kV)) := e5
        have ep5 := S5 _ _ (S4 _ _ ep)
        have eq5 := S5 _ _ (S4 _ _ eq)
        have S25 := S4.trans S5
        refine ⟨_, rfl, p, _, rfl, DGet.t ep5 e5', _, rfl, ?_⟩
        rw [valV_wcI]
        by_cases hsu : (st, 0) ∈ ps
        · rw [decide_eq_true hsu]
          refine iteF ?_
          have hb : us.length * (n + 1 - reachL n s) ≤ 4000 := Nat.le_trans (Nat.mul_le_mul_right _ hul) hl1
          have hwin : ∀ w ∈ us, w.length = n ∧ ∀ c ∈ w, 97 ≤ c ∧ c < 97 + W.length := fun w hw => by
            obtain ⟨r, hr, rfl⟩ := (hu w).mp hw
            exact ⟨(hin r hr).1, (hin r hr).2.1⟩
          refine ⟨_, rfl, _, rfl, _, rfl, a, q, W, s, n, us, rfl, same_tup S25 ha2, hW, hn1, hn, eq5, hb, hwin, fun z zs H6 nz S6 ez az zl hz => ?_⟩
          have ep6 := S6 _ _ ep5
          refine ⟨z, rfl, ⟨_, SqL.of ez⟩, fun D hD => ?_⟩
          have wk : Walk (Itl K z) zs.length (fun H => SqL K H z (zs.map vZ)) (YAt (zs.map vZ)) := by
            have z := walk_list (K := K) (a := z) (xs := zs.map vZ)
            rwa [List.length_map] at z
          refine lc_filt zs (fun z => decide (z.2 ∉ ps)) vZ wk hD (by omega) (fun H' s => SqL.of (s _ _ ez)) ?_ ?_
          · rintro i z x H7 H8 R N hzi s7 ⟨rfl, hx⟩ hR hN
            rw [List.getElem?_map, hzi] at hx
            obtain rfl := Option.some.inj hx
            have hza := s7 _ _ (az z (List.mem_of_getElem? hzi))
            refine ⟨rfl, ?_⟩
            refine ⟨_, rfl, _, rfl, p, _, rfl, DGet.t (k := keyWC z.2) (s7 _ _ ep6) hza, _, rfl, ?_⟩
            rw [valV_wcI]
            by_cases hz1 : z.2 ∈ ps
            · rw [decide_eq_true hz1]
              exact iteF (hN (decide_eq_false fun h => h hz1) _ (Same.refl _))
            · rw [decide_eq_false hz1]
              exact iteT ⟨_, rfl, hR (decide_eq_true hz1) _ (Same.refl _)⟩
          · intro H7 s7 g7
            have g7' : H7 D = some (.lst ((zs.filter fun z => decide (z.2 ∉ ps)).map vZ)) := g7
            have hzm : ∀ r, r ∈ zs.map (·.2) ↔ ∃ x ∈ qs, r ∈ rowsW n s (imgL W x.1) := fun r => by
              rw [hz]
              constructor
              · rintro ⟨w, hw, h⟩
                obtain ⟨x, hx, rfl⟩ := (hu w).mp hw
                exact ⟨x, hx, h⟩
              · rintro ⟨x, hx, h⟩
                exact ⟨_, (hu _).mpr ⟨x, hx, rfl⟩, h⟩
            have hfi : (zs.filter fun z => decide (z.2 ∉ ps)) = [] ↔ ∀ w ∈ qs, ∀ u ∈ rowsW n s (imgL W w.1), u ∈ qs := by
              rw [List.filter_eq_nil_iff]
              constructor
              · intro h w hw u hu
                obtain ⟨z, hz', rfl⟩ := List.mem_map.mp ((hzm u).mpr ⟨w, hw, hu⟩)
                exact Classical.byContradiction fun q => h z hz' (decide_eq_true fun t => q ((hp _).mp t))
              · intro h z hz' q
                obtain ⟨w, hw, hu⟩ := (hzm z.2).mp (List.mem_map_of_mem hz')
                exact of_decide_eq_true q ((hp _).mpr (h w hw _ hu))
            have hat : AtZ H7 (zs.filter fun z => decide (z.2 ∉ ps)) := fun z hz' => s7 _ _ (az z (List.mem_filter.mp hz').1)
            have hsh : ∀ z ∈ (zs.filter fun z => decide (z.2 ∉ ps)), ∀ c ∈ z.2.1, c < 0x110000 := fun z hz' c hc => by
              obtain ⟨x, hx, h⟩ := (hzm z.2).mp (List.mem_map_of_mem (List.mem_filter.mp hz').1)
              have := (img_in hW (hin x hx).2.1).2 c (win_sub (rows_win h) c hc)
              omega
            generalize (zs.filter fun z => decide (z.2 ∉ ps)) = os at *
            refine ⟨by show 0 ≤ sizeLine; decide, ?_⟩
            walk_at "n8"
            refine ⟨_, _, .lst (SqL.of (S8 _ _ g7')) (dpZ (hat.same S8)), .lst (SqL.of e8) .nil, shapedZ hsh, shapedZ (zs := []) (fun _ h => nomatch h), ?_⟩
            rw [eqv_nil]
            have S28 := ((S25.trans S6).trans s7).trans S8
            by_cases ho : os = []
            · rw [show decide (os.map dZ = []) = true from decide_eq_true (by rw [ho]; rfl)]
              exact kt ⟨hin, hfi.mp ho, (hp _).mp hsu⟩ _ S28
            · rw [show decide (os.map dZ = []) = false from decide_eq_false fun h => ho (List.map_eq_nil_iff.mp h)]
              exact kf (fun hc => ho (hfi.mpr hc.2.1)) _ S28
        · rw [decide_eq_false hsu]
          exact iteT (kf (fun hc => hsu ((hp _).mpr hc.2.2)) _ S25)

/-! ### _law_open -/
def sp_law_open (K : PySem.W.Frag) : Sp := fun vs H Q _ => ∃ (a : Addr) (ns : List Int), vs = [.ref a] ∧ SqL K H a (ns.map V.int) ∧ ns.length ≤ 63 ∧ ∀ p c H', Same H H' → H p = none → H c = none → Pen H' p c 0 → Q (.ref p) H'
theorem ok_law_open (T : Txt K mg A) : FnOk P w K mg base CX0 1 A.f_law_open A.d_law_open ["script"] (sp_law_open K) := by
  refine T.F_law_open.ok sc_law_open (fun vs H Q E h => ?_) (fun cdv A' outer s H vs Q E hr h => ?_)
  · obtain ⟨a, ns, rfl, _⟩ := h
    rfl
  · obtain ⟨a, ns, rfl, hS, hl, k⟩ := h
    refine ⟨_, (pss_cons (ps_set (i := 1) sc_law_open.nd rfl (by first | exact Or.inl rfl | exact Or.inr rfl) (pe_callTy (call_listK (K := K)) (by rfl) T.list (by decide +kernel) (pa_cons (pe_slice (sl_listK (K := K)) (pv 0) po_none (po_some pe_int)) pa_nil)))
  (pss_cons (ps_for PassesOwn.never rfl (pi_enum (by rfl) T.enumerate (pa_cons (pe_slice (sl_listK (K := K)) (pv 0) (po_some pe_int) (po_some pe_int)) pa_nil)) (pg_tup (by rfl) (pgs_cons (pg_name (i := 2) sc_law_open.nd rfl (by first | exact Or.inl rfl | exact Or.inr rfl)) (pgs_cons (pg_name (i := 3) sc_law_open.nd rfl (by first | exact Or.inl rfl | exact Or.inr rfl)) pgs_nil))) (pss_one (ps_asg (pe_op op_add (pe_ix (ix_listK (K := K)) (pv 1) (pe_op op_mod (pe_callTy call_intI (by rfl) T.int (by decide +kernel) (pa_cons (pv 2) pa_nil)) pe_int) (fun _ _ => rfl)) (pv 3)) (pg_sub (pv 1) (pe_op op_mod (pe_callTy call_intI (by rfl) T.int (by decide +kernel) (pa_cons (pv 2) pa_nil)) pe_int) set_list))))
  (pss_one (ps_ret (pe_lst (pa_cons (pv 1) (pa_cons pe_int (pa_cons pe_int pa_nil)))))))), ?_⟩
    -- cells = list(script[:12])
    refine ⟨_, rfl, 12, rfl, a, _, rfl, hS, ?_⟩
    walk_at "n1"
    refine ⟨l1, _, rfl, .inl (SqL.of e1), ?_⟩
    walk_at "n2"
    -- enumerate(script[12:63])
    refine ⟨_, rfl, 12, rfl, 63, rfl, a, _, rfl, S2.seq (S1.seq hS), ?_⟩
    walk_at "n3"
    have q1 : cutV (ns.map V.int) none (some 12) = (ns.take 12).map V.int := by rw [cutV_L, cutL_map]; exact congrArg _ (cutL_pre ns 12)
    have q2 : cutV (ns.map V.int) (some 12) (some 63) = ((ns.take 63).drop 12).map V.int := by rw [cutV_L, cutL_map]; exact congrArg _ (cutL_mid ns 12 63)
    rw [q1] at e1 e2
    rw [q2] at e3
    have m2 : H l2 = none := S1.free n2
    have m3 : H l3 = none := S1.free (S2.free n3)
    have n23 : l2 ≠ l3 := ne_of_none e2 n3
    refine ⟨l3, _, rfl, SqL.of e3, for_it (walk_enum (xs := ((ns.take 63).drop 12).map V.int)) (fun i σ H' => ∃ y2 y3, σ = [some (.ref a), some (.ref l2), y2, y3] ∧ Same H H' ∧ H' l3 = some (.lst (((ns.take 63).drop 12).map V.int)) ∧
      ∃ cs : List Int, H' l2 = some (.lst (cs.map V.int)) ∧ cs.length = min 12 ns.length) ⟨none, none, rfl, (S1.trans S2).trans S3, e3, ns.take 12, S3 _ _ e2, by rw [List.length_take]⟩ ?_ ?_ ?_⟩
    · rintro i σ H' _ ⟨_, _, _, _, x, _⟩
      exact SqL.of x
    · rintro i x σ H4 H5 hi ⟨y2, y3, rfl, s4, x4, cs, c4, hcs⟩ ⟨T1, u, v, rfl, nT, rfl, hu, hv⟩
      cases hu
      rw [List.length_map, List.length_drop, List.length_take] at hi
      replace hv : (((ns.take 63).drop 12).map V.int)[i]? = some v := hv
      rw [List.getElem?_map] at hv
      obtain ⟨z, hz, rfl⟩ := Option.map_eq_some_iff.mp hv
      refine ⟨T1, _, rfl, .inl (.inl upd_same), rfl, _, _, rfl, _, _, rfl, rfl, ?_⟩
      have nT2 : l2 ≠ T1 := ne_of_none c4 nT
      have nT3 : l3 ≠ T1 := ne_of_none x4 nT
      generalize hG : upd H4 T1 _ = G4
      obtain ⟨S4, g4⟩ := nw hG nT
      have ec := S4 _ _ c4
      have h12 : 12 ≤ cs.length := by omega
      have hm : i % 12 < cs.length := by have := Nat.mod_lt i (show 12 > 0 by decide); omega
      have ha : atI (cs.map V.int) ((i : Int) % 12) = some (.int cs[i % 12]) := by
        unfold atI
        rw [List.length_map, ix12 i h12]
        show (cs.map V.int)[i % 12]? = _
        rw [List.getElem?_map, List.getElem?_eq_getElem hm]
        rfl
      walk_at "rd"
      refine ⟨(by show (0 : Int) < _; decide), ?_⟩
      refine ⟨l2, _, _, _, rfl, rfl, SqL.of ec, ha, ?_⟩
      walk_at "rd"
      refine ⟨(by show (0 : Int) < _; decide), ?_⟩
      refine ⟨l2, _, _, _, rfl, rfl, ec, (by rw [List.length_map]; exact ix12 i h12), ?_⟩
      refine ⟨_, _, rfl, fun b o hb => ?_, ?_, cs.set (i % 12) (cs[i % 12] + z), ?_, ?_⟩
      · rw [upd_ne (ne_of_none hb m2)]
        exact S4 _ _ (s4 _ _ hb)
      · rw [upd_ne n23.symm]
        exact S4 _ _ x4
      · rw [upd_same, List.map_set]
      · rw [List.length_set]
        exact hcs
    · rintro σ H4 ⟨y2, y3, rfl, s4, x4, cs, c4, hcs⟩
      refine ⟨_, rfl, (by show 3 ≤ sizeLine; decide), ?_⟩
      walk_at "n5"
      exact k l5 l2 H5 (s4.trans S5) (s4.free n5) m2 ⟨cs, 0, 0, ⟨e5, S5 _ _ c4, by omega⟩, by decide, by decide⟩

/-! ### _law_anew -/
def sp_law_anew : Sp := fun vs H Q _ => ∃ (p c : Addr) (n : Nat), vs = [.ref p] ∧ Pen H p c n ∧ ∀ H', But p H H' → Pen H' p c n → Q (.ref p) H'
theorem ok_law_anew (T : Txt K mg A) : FnOk P w K mg base CX0 1 A.f_law_anew A.d_law_anew ["pen"] sp_law_anew := by
  refine T.F_law_anew.ok sc_law_anew (fun vs H Q E h => ?_) (fun cdv A' outer s H vs Q E hr h => ?_)
  · obtain ⟨a, c, n, rfl, _⟩ := h
    rfl
  · obtain ⟨p, c, n, rfl, hp, k⟩ := h
    refine ⟨_, (pss_cons (ps_asg pe_int (pg_sub (pv 0) pe_int set_list))
  (pss_one (ps_ret (pv 0)))), ?_⟩
    obtain ⟨ns, i, z, hA, h0, h1⟩ := hp
    have ne := hA.ne
    obtain ⟨a1, a2, a3⟩ := hA
    refine ⟨_, rfl, p, _, _, 2, rfl, rfl, a1, rfl, ?_⟩
    generalize hG : upd H p _ = G1
    obtain ⟨B1, f1⟩ := pt hG
    exact ⟨_, rfl, k G1 B1 ⟨ns, i, 0, ⟨f1, B1 _ _ ne a2, a3⟩, h0, h1⟩⟩

/-! ### _law_spread, with int() -/
def sp_law_spread : Sp := fun vs H Q _ => ∃ c a : Int, vs = [.int c, .int a] ∧ 0 ≤ a ∧ a ≤ 1048576 ∧ ∀ (r : Int) H', Same H H' → Q (.int r) H'
theorem ok_law_spread (T : Txt K mg A) : FnOk P w K mg base CX0 1 A.f_law_spread A.d_law_spread ["cell", "at"] sp_law_spread := by
  refine T.F_law_spread.ok sc_law_spread (fun vs H Q E h => ?_) (fun cdv A' outer s H vs Q E hr h => ?_)
  · obtain ⟨c, a, rfl, _⟩ := h
    rfl
  · obtain ⟨c, a, rfl, h0, h1, k⟩ := h
    refine ⟨_, (pss_cons (ps_if (pt_cmpR op_ge (pv 0) (pe_op op_pow pe_int pe_int) (nomark _)) (pss_one (ps_ret (pv 0))) pss_nil)
  (pss_cons (ps_set (i := 2) sc_law_spread.nd rfl (by first | exact Or.inl rfl | exact Or.inr rfl) (pe_lst (pa_cons pe_int (pa_cons pe_int (pa_cons pe_int (pa_cons pe_int (pa_cons pe_int (pa_cons pe_int (pa_cons pe_int pa_nil)))))))))
  (pss_cons (ps_set (i := 2) sc_law_spread.nd rfl (by first | exact Or.inl rfl | exact Or.inr rfl) (pe_op op_cat (pv 2) (pe_lst (pa_cons pe_int (pa_cons pe_int (pa_cons pe_int (pa_cons pe_int (pa_cons pe_int (pa_cons pe_int pa_nil)))))))))
  (pss_cons (ps_set (i := 3) sc_law_spread.nd rfl (by first | exact Or.inl rfl | exact Or.inr rfl) (pe_op op_add (pe_op op_add (pe_op op_mul (pe_op op_mod (pe_callTy call_intI (by rfl) T.int (by decide +kernel) (pa_cons (pv 0) pa_nil)) pe_int) (pe_op op_add (pe_op op_mul pe_int (pv 1)) pe_int)) (pe_op op_mul (pv 1) pe_int)) pe_int))
  (pss_cons (ps_set (i := 4) sc_law_spread.nd rfl (by first | exact Or.inl rfl | exact Or.inr rfl) (pe_op op_mod (pe_callTy call_intI (by rfl) T.int (by decide +kernel) (pa_cons (pe_op op_pow (pv 3) pe_int) pa_nil)) (pe_ix (ix_listK (K := K)) (pv 2) (pe_op op_mod (pe_callTy call_intI (by rfl) T.int (by decide +kernel) (pa_cons (pv 1) pa_nil)) pe_int) (fun _ _ => rfl))))
  (pss_cons (ps_set (i := 5) sc_law_spread.nd rfl (by first | exact Or.inl rfl | exact Or.inr rfl) (pe_op op_add (pe_op op_mod (pe_callTy call_intI (by rfl) T.int (by decide +kernel) (pa_cons (pv 0) pa_nil)) pe_int) pe_int))
  (pss_cons (ps_set (i := 6) sc_law_spread.nd rfl (by first | exact Or.inl rfl | exact Or.inr rfl) (pe_op op_mod (pe_callTy call_intI (by rfl) T.int (by decide +kernel) (pa_cons (pe_op op_pow (pe_op op_add (pe_op op_mul (pv 4) (pe_op op_add (pv 1) pe_int)) (pv 5)) pe_int) pa_nil)) (pe_ix (ix_listK (K := K)) (pv 2) (pe_op op_mod (pe_callTy call_intI (by rfl) T.int (by decide +kernel) (pa_cons (pe_op op_add (pv 1) pe_int) pa_nil)) pe_int) (fun _ _ => rfl))))
  (pss_cons (ps_set (i := 7) sc_law_spread.nd rfl (by first | exact Or.inl rfl | exact Or.inr rfl) (pe_op op_mod (pe_callTy call_intI (by rfl) T.int (by decide +kernel) (pa_cons (pe_op op_pow (pe_op op_add (pe_op op_add (pv 6) (pe_op op_mod (pe_callTy call_intI (by rfl) T.int (by decide +kernel) (pa_cons (pv 4) pa_nil)) pe_int)) (pv 1)) pe_int) pa_nil)) (pe_ix (ix_listK (K := K)) (pv 2) (pe_op op_mod (pe_callTy call_intI (by rfl) T.int (by decide +kernel) (pa_cons (pe_op op_add (pv 1) pe_int) pa_nil)) pe_int) (fun _ _ => rfl))))
  (pss_one (ps_ret (pe_op op_add (pe_op op_mul (pe_op op_add (pe_op op_mul (pv 4) pe_int) (pv 6)) pe_int) (pv 7)))))))))))), ?_⟩
    refine ⟨_, rfl, _, _, rfl, rfl, ⟨by decide, by decide, by decide⟩, _, _, rfl, rfl, _, rfl, ite2 (fun e => ⟨_, rfl, k c H (Same.refl H)⟩) (fun e => ?_)⟩
    refine ⟨by decide, ?_⟩
    walk_at "n1"
    refine ⟨_, rfl, by decide, ?_⟩
    walk_at "n2"
    refine ⟨l1, l2, _, _, rfl, rfl, S2 _ _ e1, e2, by decide, ?_⟩
    walk_at "n3"
    have hP : SqL K H3 l3 (primesL.map V.int) := SqL.of e3
    have S : Same H H3 := (S1.trans S2).trans S3
    clear e1 e2 e3 n1 n2 n3 S1 S2 S3
    obtain ⟨q1, a1, b1, d1⟩ := primes_at a
    obtain ⟨q2, a2, b2, d2⟩ := primes_at (a + 5)
    obtain ⟨q3, a3, b3, d3⟩ := primes_at (a + 7)
    -- mixed
    walk_at "rd"
    refine ⟨(by show (0 : Int) < _; decide), ?_⟩
    walk_at "rd"
    refine ⟨.inl ⟨by decide, by decide⟩, ?_⟩
    walk_at "rd"
    refine ⟨.inl ⟨by omega, by omega⟩, ?_⟩
    walk_at "rd"
    refine ⟨.inl ⟨by omega, by omega⟩, ?_⟩
    walk_at "rd"
    -- one
    refine ⟨⟨by decide, by decide, mixed_lt c a h0 h1⟩, ?_⟩
    walk_at "rd"
    refine ⟨(by show (0 : Int) < _; decide), ?_⟩
    refine ⟨_, _, _, _, rfl, rfl, hP, a1, ?_⟩
    refine ⟨_, _, rfl, rfl, (by show (0 : Int) < q1; omega), ?_⟩
    generalize (c % 1000000007 * (2 * a + 69069) + a * 40503 + 977) ^ Int.toNat 3 = m1
    have r1 := rest_in (x := m1) b1 d1
    -- rest
    walk_at "rd"
    refine ⟨(by show (0 : Int) < _; decide), ?_⟩
    -- two
    walk_at "rd"
    refine ⟨.inl ⟨by omega, by omega⟩, ?_⟩
    walk_at "rd"
    refine ⟨⟨by decide, by decide, by rw [← Int.add_assoc]; exact two_lt c a (m1 % q1) h0 h1 r1.1 r1.2⟩, ?_⟩
    walk_at "rd"
    refine ⟨(by show (0 : Int) < _; decide), ?_⟩
    refine ⟨_, _, _, _, rfl, rfl, hP, a2, ?_⟩
    refine ⟨_, _, rfl, rfl, (by show (0 : Int) < q2; omega), ?_⟩
    generalize (m1 % q1 * (a + 3) + (c % 65537 + 5)) ^ Int.toNat 5 = m2
    have r2 := rest_in (x := m2) b2 d2
    -- three
    walk_at "rd"
    refine ⟨(by show (0 : Int) < _; decide), ?_⟩
    walk_at "rd"
    refine ⟨⟨by decide, by decide, three_lt a (m1 % q1) (m2 % q2) h0 h1 r2.1 r2.2⟩, ?_⟩
    walk_at "rd"
    refine ⟨(by show (0 : Int) < _; decide), ?_⟩
    refine ⟨_, _, _, _, rfl, rfl, hP, a3, ?_⟩
    refine ⟨_, _, rfl, rfl, (by show (0 : Int) < q3; omega), ?_⟩
    walk_at "rd"
    refine ⟨.inr ⟨by decide, by decide⟩, ?_⟩
    walk_at "rd"
    refine ⟨.inr ⟨by decide, by decide⟩, ?_⟩
    walk_at "rd"
    exact k _ H3 S

/-! ### _law_take, also of wide bounds -/
def sp_law_takeW : Sp := fun vs H Q _ => ∃ (p c : Addr) (n m : Nat), vs = [.ref p, .int (m : Int)] ∧ Pen H p c n ∧ n ≤ 1000000 ∧ 0 < m ∧ m < 2 ^ 210 ∧
  ∀ (r : Nat) H', r < m → But p H H' → Pen H' p c (n + 1) → Q (.int (r : Int)) H'
def sp_law_take : Sp := fun vs H Q _ => ∃ (p c : Addr) (n m : Nat), vs = [.ref p, .int (m : Int)] ∧ Pen H p c n ∧ n ≤ 1000000 ∧ 0 < m ∧ m < 1073741824 ∧
  ∀ (r : Nat) H', r < m → But p H H' → Pen H' p c (n + 1) → Q (.int (r : Int)) H'
def t_take_end (K : PySem.W.Frag) : TS := tSeq (tAsg (tOp (rI (fun _ j => 0 < j) fun i j => V.int (i % j)) (tCB rIntI (tCons (tOp (rIxL K) (tVar 0) (tC (.int 2))) tNil)) (tVar 1)) (gName 4))
  (tSeq (tAsg (tOp (rI CDivW fun i j => V.int (i / j)) (tOp (rIxL K) (tVar 0) (tC (.int 2))) (tVar 1)) (gSub (tVar 0) (tC (.int 2)) rSetL)) (tRet (tVar 4)))
def t_take_mid : TS := tSeq (tAsg (tOp (rI0 fun i j => V.int (i + j)) (tVar 2) (tC (.int 1))) (gSub (tVar 0) (tC (.int 1)) rSetL))
  (tAsg (tCall sp_law_spread [] E0 (tCons (tVar 3) (tCons (tVar 2) tNil))) (gSub (tVar 0) (tC (.int 2)) rSetL))
theorem ok_law_takeW (T : Txt K mg A) : FnOk P w K mg base CX0 2 A.f_law_take A.d_law_take ["pen", "many"] sp_law_takeW := by
  refine T.F_law_take.ok sc_law_take (fun vs H Q E h => ?_) (fun cdv A' outer s H vs Q E hr h => ?_)
  · obtain ⟨p, c, n, m, rfl, _⟩ := h
    rfl
  · obtain ⟨p, c, n, m, rfl, hp, hn, hm0, hm1, k⟩ := h
    refine ⟨_, (pss_cons (ps_if (pt_cmpR op_lt (pe_ix (ix_listK (K := K)) (pv 0) pe_int (fun _ _ => rfl)) (pv 1) (nomark _)) (pss_cons (ps_set (i := 2) sc_law_take.nd rfl (by first | exact Or.inl rfl | exact Or.inr rfl) (pe_ix (ix_listK (K := K)) (pv 0) pe_int (fun _ _ => rfl)))
  (pss_cons (ps_set (i := 3) sc_law_take.nd rfl (by first | exact Or.inl rfl | exact Or.inr rfl) pe_int)
  (pss_cons (ps_if (pt_cmpR op_lt (pv 2) (pe_callB (call_lenK (K := K)) (by rfl) T.len PySem.boot_len (pa_cons (pe_ix (ix_listK (K := K)) (pv 0) pe_int (fun _ _ => rfl)) pa_nil)) (nomark _)) (pss_one (ps_set (i := 3) sc_law_take.nd rfl (by first | exact Or.inl rfl | exact Or.inr rfl) (pe_ix (ix_listK (K := K)) (pe_ix (ix_listK (K := K)) (pv 0) pe_int (fun _ _ => rfl)) (pv 2) (fun _ _ => rfl)))) (pss_one (ps_if (pt_cmpR op_gt (pe_callB (call_lenK (K := K)) (by rfl) T.len PySem.boot_len (pa_cons (pe_ix (ix_listK (K := K)) (pv 0) pe_int (fun _ _ => rfl)) pa_nil)) pe_int (nomark _)) (pss_one (ps_set (i := 3) sc_law_take.nd rfl (by first | exact Or.inl rfl | exact Or.inr rfl) (pe_op op_mod (pe_callTy call_intI (by rfl) T.int (by decide +kernel) (pa_cons (pe_ix (ix_listK (K := K)) (pe_ix (ix_listK (K := K)) (pv 0) pe_int (fun _ _ => rfl)) (pe_op op_mod (pe_callTy call_intI (by rfl) T.int (by decide +kernel) (pa_cons (pe_op op_add (pe_op op_mul (pv 2) pe_int) pe_int) pa_nil)) (pe_callB (call_lenK (K := K)) (by rfl) T.len PySem.boot_len (pa_cons (pe_ix (ix_listK (K := K)) (pv 0) pe_int (fun _ _ => rfl)) pa_nil))) (fun _ _ => rfl)) pa_nil)) (pe_op op_add (pe_op op_pow pe_int pe_int) (pv 2))))) pss_nil)))
  (pss_cons (ps_asg (pe_op op_add (pv 2) pe_int) (pg_sub (pv 0) pe_int set_list))
  (pss_one (ps_asg (pe_call (ok_law_spread T) hr (by rfl) T.g_law_spread T.F_law_spread.kp T.b_law_spread .nil pass0 (pa_cons (pv 3) (pa_cons (pv 2) pa_nil))) (pg_sub (pv 0) pe_int set_list))))))) pss_nil)
  (pss_cons (ps_set (i := 4) sc_law_take.nd rfl (by first | exact Or.inl rfl | exact Or.inr rfl) (pe_op op_mod (pe_callTy call_intI (by rfl) T.int (by decide +kernel) (pa_cons (pe_ix (ix_listK (K := K)) (pv 0) pe_int (fun _ _ => rfl)) pa_nil)) (pv 1)))
  (pss_cons (ps_asg (pe_op op_fdivW (pe_ix (ix_listK (K := K)) (pv 0) pe_int (fun _ _ => rfl)) (pv 1)) (pg_sub (pv 0) pe_int set_list))
  (pss_one (ps_ret (pv 4)))))), ?_⟩
    -- the last three rows: found, the rest, the return
    have fin : ∀ (H1 : Hp) (σ : L2.St) (x2 x3 : Option V), But p H H1 → (∃ ns i z, PenAt H1 p c ns i z ∧ 0 ≤ i ∧ i ≤ ((n + 1 : Nat) : Int)) → σ = [some (.ref p), some (.int m), x2, x3, none] →
        t_take_end K { nx := fun _ H' => Q .non H', rt := Q } σ H1 := by
      rintro H1 σ x2 x3 B1 ⟨ns, i, z, hA, h0, h1⟩ rfl
      have ne := hA.ne
      obtain ⟨a1, a2, a3⟩ := hA
      refine ⟨_, rfl, p, _, _, _, rfl, rfl, SqL.of a1, atI_nat (j := 2) rfl, ?_⟩
      walk_at "rd"
      refine ⟨(by show (0 : Int) < m; omega), ?_⟩
      refine ⟨_, rfl, p, _, _, _, rfl, rfl, SqL.of a1, atI_nat (j := 2) rfl, ?_⟩
      walk_at "rd"
      refine ⟨wide_div (b := 210) (by show (0 : Int) < m; omega) (by show (m : Int).natAbs < 2 ^ 210; rw [Int.natAbs_natCast]; exact hm1) (by decide) (by decide), ?_⟩
      refine ⟨_, rfl, p, _, _, 2, rfl, rfl, a1, rfl, ?_⟩
      generalize hG : upd H1 p _ = G1
      obtain ⟨B2, f2⟩ := pt hG
      refine ⟨_, rfl, ?_⟩
      have r0 : 0 ≤ z % (m : Int) := Int.emod_nonneg _ (by omega)
      have r1 : z % (m : Int) < m := Int.emod_lt_of_pos _ (by omega)
      obtain ⟨r, hr'⟩ := Int.eq_ofNat_of_zero_le r0
      have q := k r G1 (by omega) (B1.trans B2) ⟨ns, i, z / m, ⟨f2, B2 _ _ ne a2, a3⟩, h0, h1⟩
      rw [← hr'] at q
      exact q
    obtain ⟨ns, i, z, hA, h0, h1⟩ := hp
    have ne := hA.ne
    obtain ⟨a1, a2, a3⟩ := hA
    -- pen[2] < many
    refine ⟨_, rfl, p, _, _, _, rfl, rfl, SqL.of a1, atI_nat (j := 2) rfl, ?_⟩
    walk_at "rd"
    refine ite2 (fun e => ?_) (fun e => ?_)
    · -- at = pen[1]; cell = 0
      refine ⟨_, rfl, p, _, _, _, rfl, rfl, SqL.of a1, atI_nat (j := 1) rfl, ?_⟩
      -- pen[1] = at + 1; pen[2] = _law_spread(cell, at)
      have go : ∀ (σ : L2.St) (z3 : Int), σ = [some (.ref p), some (.int m), some (.int i), some (.int z3), none] →
          t_take_mid { nx := t_take_end K { nx := fun _ H' => Q .non H', rt := Q }, rt := Q } σ H := by
        rintro σ z3 rfl
        walk_at "rd"
        refine ⟨p, _, _, 1, rfl, rfl, a1, rfl, ?_⟩
        generalize hG : upd H p _ = G1
        obtain ⟨B1, f1⟩ := pt hG
        refine ⟨_, rfl, _, rfl, _, _, rfl, h0, (by omega), fun r G2 S2 => ?_⟩
        refine ⟨_, rfl, p, _, _, 2, rfl, rfl, S2 _ _ f1, rfl, ?_⟩
        generalize hG3 : upd G2 p _ = G3
        obtain ⟨B3, f3⟩ := pt hG3
        refine fin G3 _ _ _ ((B1.trans (But.of_same S2)).trans B3) ⟨ns, i + 1, r, ⟨f3, B3 _ _ ne (S2 _ _ (B1 _ _ ne a2)), a3⟩, by omega, by omega⟩ rfl
      -- at < len(pen[0])
      refine ⟨_, rfl, _, rfl, p, _, _, _, rfl, rfl, SqL.of a1, atI_nat (j := 0) rfl, ?_⟩
      refine ⟨c, _, rfl, .inl (SqL.of a2), ?_⟩
      walk_at "rd"
      refine ite2 (fun e2 => ?_) (fun e2 => ?_)
      · have l2 : i < (ns.map V.int).length := of_decide_eq_true e2
        rw [List.length_map] at l2
        obtain ⟨j, hj⟩ := Int.eq_ofNat_of_zero_le h0
        refine ⟨_, rfl, p, _, _, _, rfl, rfl, SqL.of a1, atI_nat (j := 0) rfl, ?_⟩
        refine ⟨_, rfl, c, _, _, .int (ns[j]'(by omega)), rfl, rfl, SqL.of a2, at_of hj (by rw [List.getElem?_map, List.getElem?_eq_getElem (show j < ns.length by omega)]; rfl), ?_⟩
        exact go _ _ rfl
      · refine ⟨_, rfl, p, _, _, _, rfl, rfl, SqL.of a1, atI_nat (j := 0) rfl, ?_⟩
        refine ⟨c, _, rfl, .inl (SqL.of a2), ?_⟩
        walk_at "rd"
        refine ite2 (fun e3 => ?_) (fun e3 => go _ 0 rfl)
        have l3 : 0 < ((ns.map V.int).length : Int) := of_decide_eq_true e3
        rw [List.length_map] at l3
        refine ⟨_, rfl, p, _, _, _, rfl, rfl, SqL.of a1, atI_nat (j := 0) rfl, ?_⟩
        walk_at "rd"
        refine ⟨.inr ⟨by decide, by decide⟩, ?_⟩
        walk_at "rd"
        refine ⟨p, _, _, _, rfl, rfl, SqL.of a1, atI_nat (j := 0) rfl, ?_⟩
        refine ⟨c, _, rfl, .inl (SqL.of a2), ?_⟩
        refine ⟨_, _, rfl, rfl, (by show (0 : Int) < ((ns.map V.int).length : Int); rw [List.length_map]; exact l3), ?_⟩
        have u0 : 0 ≤ (i * 5 + 3) % ((ns.map V.int).length : Int) := Int.emod_nonneg _ (by rw [List.length_map]; omega)
        have u1 : (i * 5 + 3) % ((ns.map V.int).length : Int) < ((ns.map V.int).length : Int) := Int.emod_lt_of_pos _ (by rw [List.length_map]; omega)
        obtain ⟨j, hj⟩ := Int.eq_ofNat_of_zero_le u0
        have hj2 : j < ns.length := by rw [List.length_map] at u1; rw [List.length_map] at hj; omega
        refine ⟨c, _, _, .int (ns[j]'hj2), rfl, rfl, SqL.of a2, at_of hj (by rw [List.getElem?_map, List.getElem?_eq_getElem hj2]; rfl), ?_⟩
        walk_at "rd"
        refine ⟨⟨by decide, by decide, by decide⟩, ?_⟩
        walk_at "rd"
        refine ⟨(by show (0 : Int) < 10 ^ Int.toNat 17 + i; have : (0 : Int) < 10 ^ Int.toNat 17 := by decide
                    omega), ?_⟩
        exact go _ _ rfl
    · refine fin H _ none none (But.refl p H) ⟨ns, i, z, ⟨a1, a2, a3⟩, h0, by omega⟩ rfl
theorem ok_law_take (T : Txt K mg A) : FnOk P w K mg base CX0 2 A.f_law_take A.d_law_take ["pen", "many"] sp_law_take :=
  (ok_law_takeW T).imp fun vs H Q E h => by
    obtain ⟨p, c, n, m, e, hp, hn, h0, h1, k⟩ := h
    exact ⟨p, c, n, m, e, hp, hn, h0, Nat.lt_trans h1 (by decide), k⟩

/-! ### _law_one -/
def sp_law_one (K : PySem.W.Frag) : Sp := fun vs H Q _ => ∃ (p c : Addr) (n : Nat) (x : V), vs = [.ref p, x] ∧ Pen H p c n ∧ n ≤ 1000000 ∧
  ((∃ (a : Addr) (xs : List V), x = .ref a ∧ SqL K H a xs ∧ a ≠ p ∧ 0 < xs.length ∧ xs.length < 1073741824 ∧ ∀ (r : Nat) v H', xs[r]? = some v → But p H H' → Pen H' p c (n + 1) → Q v H') ∨
   (∃ z : Str, x = .str z ∧ 0 < z.length ∧ z.length ≤ sizeLine ∧ ∀ (r : Nat) (d : Nat) H', z.cps.toList[r]? = some d → But p H H' → Pen H' p c (n + 1) → Q (.str ⟨#[d]⟩) H'))
theorem ok_law_one (T : Txt K mg A) : FnOk P w K mg base CX0 3 A.f_law_one A.d_law_one ["pen", "some"] (sp_law_one K) := by
  refine T.F_law_one.ok sc_law_one (fun vs H Q E h => ?_) (fun cdv A' outer s H vs Q E hr h => ?_)
  · obtain ⟨p, c, n, x, rfl, _⟩ := h
    rfl
  · obtain ⟨p, c, n, x, rfl, hp, hn, h⟩ := h
    rcases h with ⟨a, xs, rfl, hS, ne, h0, h1, k⟩ | ⟨z, rfl, h0, h1, k⟩
    · refine ⟨_, (pss_one (ps_ret (pe_ix (ix_listK (K := K)) (pv 1) (pe_call (ok_law_take T) hr (by rfl) T.g_law_take T.F_law_take.kp T.b_law_take .nil pass0 (pa_cons (pv 0) (pa_cons (pe_callB (call_lenK (K := K)) (by rfl) T.len PySem.boot_len (pa_cons (pv 1) pa_nil)) pa_nil))) (fun _ _ => rfl)))), ?_⟩
      refine ⟨_, rfl, _, rfl, _, rfl, a, xs, rfl, .inl hS, p, c, n, xs.length, rfl, hp, hn, h0, h1, fun r H' hr' B hp' => ?_⟩
      exact ⟨a, xs, _, xs[r], rfl, rfl, B.seq ne hS, atI_nat (List.getElem?_eq_getElem hr'), k r _ H' (List.getElem?_eq_getElem hr') B hp'⟩
    · refine ⟨_, (pss_one (ps_ret (pe_ix ix_str (pv 1) (pe_call (ok_law_take T) hr (by rfl) T.g_law_take T.F_law_take.kp T.b_law_take .nil pass0 (pa_cons (pv 0) (pa_cons (pe_callB call_len_str (by rfl) T.len PySem.boot_len (pa_cons (pv 1) pa_nil)) pa_nil))) (fun _ _ => rfl)))), ?_⟩
      have hz : z.length = z.cps.toList.length := rfl
      have hsz : sizeLine = 16777216 := sizeLine_eq
      refine ⟨_, rfl, _, rfl, _, rfl, z, rfl, h1, p, c, n, z.length, rfl, hp, hn, h0, by omega, fun r H' hr' B hp' => ?_⟩
      have e : z.cps.toList[r]? = some (z.cps.toList[r]'(by omega)) := List.getElem?_eq_getElem (by omega)
      exact ⟨z, _, _, rfl, rfl, h1, atI_nat e, k r _ H' e B hp'⟩

/-! ### _law_power -/
def sp_law_power : Sp := fun vs H Q _ => ∃ b n : Nat, vs = [.int (b : Int), .int (n : Int)] ∧ b ≤ 26 ∧ n ≤ 1000 ∧ ∀ H', Same H H' → Q (.int ((b ^ n : Nat) : Int)) H'
theorem ok_law_power (T : Txt K mg A) : FnOk P w K mg base CX0 1 A.f_law_power A.d_law_power ["base", "number"] sp_law_power := by
  refine T.F_law_power.ok sc_law_power (fun vs H Q E h => ?_) (fun cdv A' outer s H vs Q E hr h => ?_)
  · obtain ⟨b, n, rfl, _⟩ := h
    rfl
  · obtain ⟨b, n, rfl, hb, hn, k⟩ := h
    refine ⟨_, (pss_cons (ps_set (i := 2) sc_law_power.nd rfl (by first | exact Or.inl rfl | exact Or.inr rfl) pe_int)
  (pss_cons (ps_for PassesOwn.never rfl (pi_range1 (by rfl) T.range (pa_cons (pv 1) pa_nil)) (pg_name (i := 3) sc_law_power.nd rfl (by first | exact Or.inl rfl | exact Or.inr rfl)) (pss_one (ps_set (i := 2) sc_law_power.nd rfl (by first | exact Or.inl rfl | exact Or.inr rfl) (pe_op op_mul (pv 2) (pv 0)))))
  (pss_one (ps_ret (pv 2))))), ?_⟩
    refine ⟨_, rfl, (n : Int), rfl, by omega, by omega, for_it walk_rangeN (fun i σ H' => ∃ y, σ = [some (.int (b : Int)), some (.int (n : Int)), some (.int ((b ^ i : Nat) : Int)), y] ∧ H' = H) ⟨none, rfl, rfl⟩ (fun _ _ _ _ _ => trivial) ?_ ?_⟩
    · rintro i x σ H2 H3 hi ⟨y, rfl, rfl⟩ ⟨rfl, rfl⟩
      refine ⟨_, rfl, _, rfl, _, _, rfl, rfl, .inr ⟨by omega, by omega⟩, some (vN i), ?_, rfl⟩
      rw [Nat.pow_succ, Int.natCast_mul]
      rfl
    · rintro σ H2 ⟨y, rfl, rfl⟩
      rw [Int.toNat_natCast]
      exact ⟨_, rfl, k H2 (Same.refl H2)⟩

/-! ### _law_word_of -/
def sp_law_word_of : Sp := fun vs H Q _ => ∃ n m s : Nat, vs = [.int (n : Int), .int (m : Int), .int (s : Int)] ∧ 2 ≤ m ∧ m ≤ 4 ∧ s ≤ 100 ∧ Q (.str (S (wordA m n s))) H
theorem ok_law_word_of (T : Txt K mg A) : FnOk P w K mg base CX0 1 A.f_law_word_of A.d_law_word_of ["number", "many", "length"] sp_law_word_of := by
  refine T.F_law_word_of.ok sc_law_word_of (fun vs H Q E h => ?_) (fun cdv A' outer s0 H vs Q E hr h => ?_)
  · obtain ⟨n, m, s, rfl, _⟩ := h
    rfl
  · obtain ⟨n, m, s, rfl, hm2, hm4, hs, k⟩ := h
    refine ⟨_, (pss_cons (ps_set (i := 3) sc_law_word_of.nd rfl (by first | exact Or.inl rfl | exact Or.inr rfl) pe_str)
  (pss_cons (ps_for PassesOwn.never rfl (pi_range1 (by rfl) T.range (pa_cons (pv 2) pa_nil)) (pg_name (i := 4) sc_law_word_of.nd rfl (by first | exact Or.inl rfl | exact Or.inr rfl)) (pss_cons (ps_set (i := 3) sc_law_word_of.nd rfl (by first | exact Or.inl rfl | exact Or.inr rfl) (pe_op op_add_str (pe_ix ix_str pe_str (pe_op op_mod (pe_callTy call_intI (by rfl) T.int (by decide +kernel) (pa_cons (pv 0) pa_nil)) (pv 1)) (fun _ _ => rfl)) (pv 3)))
  (pss_one (ps_set (i := 0) sc_law_word_of.nd rfl (by first | exact Or.inl rfl | exact Or.inr rfl) (pe_op op_fdiv (pv 0) (pv 1))))))
  (pss_one (ps_ret (pv 3))))), ?_⟩
    have ee : V.str (("" : String) : Str) = V.str (S []) := congrArg V.str (by decide +kernel)
    have hch : ∀ r, r < 4 → (S [97, 98, 99, 100]).cps.toList[r]? = some (97 + r) := by decide
    refine ⟨_, rfl, (s : Int), rfl, by omega, by omega, for_it walk_rangeN (fun i σ H' => ∃ y, σ = [some (.int ((n / m ^ i : Nat) : Int)), some (.int (m : Int)), some (.int (s : Int)), some (.str (S (wordA m n i))), y] ∧ H' = H) ⟨none, ?_, rfl⟩ (fun _ _ _ _ _ => trivial) ?_ ?_⟩
    · rw [Nat.pow_zero, Nat.div_one]
      show _ = [_, _, _, some (V.str (S [])), _]
      rw [← ee]
      rfl
    · rintro i x σ H2 H3 hi ⟨y, rfl, rfl⟩ ⟨rfl, rfl⟩
      rw [Int.toNat_natCast] at hi
      have hr4 : n / m ^ i % m < 4 := Nat.lt_of_lt_of_le (Nat.mod_lt _ (by omega)) hm4
      have ea : V.str (("abcd" : String) : Str) = V.str (S [97, 98, 99, 100]) := congrArg V.str (by decide +kernel)
      refine ⟨_, rfl, _, rfl, _, rfl, _, _, rfl, rfl, by omega, S [97, 98, 99, 100], _, 97 + n / m ^ i % m, ea, rfl, by decide, atI_nat (hch _ hr4), ?_⟩
      refine ⟨_, rfl, _, _, rfl, rfl, ?_, _, rfl, _, rfl, _, _, rfl, rfl, ⟨by omega, by omega⟩, some (vN i), ?_, rfl⟩
      · rw [sizeLine_eq]
        show 1 + (S (wordA m n i)).length ≤ _
        rw [len_S, wordA_len]
        omega
      · rw [Nat.pow_succ, ← Nat.div_div_eq_div_mul, show (({ cps := #[97 + n / m ^ i % m] } : Str) ++ S (wordA m n i)) = S (wordA m n (i + 1)) from SX.S_cat [97 + n / m ^ i % m] _]
        rfl
    · rintro σ H2 ⟨y, rfl, rfl⟩
      rw [Int.toNat_natCast]
      exact ⟨_, rfl, k⟩

/-! ### _law_rule -/
def sp_law_rule (K : PySem.W.Frag) : Sp := fun vs H Q _ => ∃ (p c : Addr) (n : Nat), vs = [.ref p] ∧ Pen H p c n ∧ n + 20 ≤ 1000000 ∧
  ∀ (a : Addr) (W : List (List Nat)) H', SqT K H' a (W.map vW) → RuleP W → But p H H' → Pen H' p c (n + 20) → Q (.ref a) H'
theorem ok_law_rule (T : Txt K mg A) : FnOk P w K mg base CX0 4 A.f_law_rule A.d_law_rule ["pen"] (sp_law_rule K) := by
  refine T.F_law_rule.ok sc_law_rule (fun vs H Q E h => ?_) (fun cdv A' outer s0 H vs Q E hr h => ?_)
  · obtain ⟨p, c, n, rfl, _⟩ := h
    rfl
  · obtain ⟨p, c, n, rfl, hp, hn, k⟩ := h
    refine ⟨_, (pss_cons (ps_if (pt_cmpR op_eq (pe_call (ok_law_take T) (hr.mono (by decide)) (by rfl) T.g_law_take T.F_law_take.kp T.b_law_take .nil pass0 (pa_cons (pv 0) (pa_cons pe_int pa_nil))) pe_int (nomark _)) (pss_cons (ps_set (i := 1) sc_law_rule.nd rfl (by first | exact Or.inl rfl | exact Or.inr rfl) (pe_lst (pa_cons (pe_tup (pa_cons pe_str (pa_cons pe_str pa_nil))) (pa_cons (pe_tup (pa_cons pe_str (pa_cons pe_str pa_nil))) (pa_cons (pe_tup (pa_cons pe_str (pa_cons pe_str (pa_cons pe_str (pa_cons pe_str pa_nil))))) (pa_cons (pe_tup (pa_cons pe_str (pa_cons pe_str pa_nil))) (pa_cons (pe_tup (pa_cons pe_str (pa_cons pe_str (pa_cons pe_str pa_nil)))) pa_nil)))))))
  (pss_cons (ps_set (i := 1) sc_law_rule.nd rfl (by first | exact Or.inl rfl | exact Or.inr rfl) (pe_op op_cat (pv 1) (pe_lst (pa_cons (pe_tup (pa_cons pe_str (pa_cons pe_str pa_nil))) (pa_cons (pe_tup (pa_cons pe_str (pa_cons pe_str (pa_cons pe_str pa_nil)))) (pa_cons (pe_tup (pa_cons pe_str (pa_cons pe_str pa_nil))) (pa_cons (pe_tup (pa_cons pe_str (pa_cons pe_str pa_nil))) (pa_cons (pe_tup (pa_cons pe_str (pa_cons pe_str (pa_cons pe_str pa_nil)))) pa_nil))))))))
  (pss_one (ps_ret (pe_call (ok_law_one T) hr (by rfl) T.g_law_one T.F_law_one.kp T.b_law_one .nil pass0 (pa_cons (pv 0) (pa_cons (pe_op op_cat (pv 1) (pe_lst (pa_cons (pe_tup (pa_cons pe_str (pa_cons pe_str (pa_cons pe_str (pa_cons pe_str pa_nil))))) pa_nil))) pa_nil))))))) pss_nil)
  (pss_cons (ps_par (i := 2) (j := 3) (by rfl) sc_law_rule.nd rfl rfl (by decide) rfl rfl (pa_cons (pe_op op_add pe_int (pe_call (ok_law_take T) (hr.mono (by decide)) (by rfl) T.g_law_take T.F_law_take.kp T.b_law_take .nil pass0 (pa_cons (pv 0) (pa_cons pe_int pa_nil)))) (pa_cons (pe_op op_add pe_int (pe_call (ok_law_take T) (hr.mono (by decide)) (by rfl) T.g_law_take T.F_law_take.kp T.b_law_take .nil pass0 (pa_cons (pv 0) (pa_cons pe_int pa_nil)))) pa_nil)) (by rfl))
  (pss_cons (ps_set (i := 4) sc_law_rule.nd rfl (by first | exact Or.inl rfl | exact Or.inr rfl) (pe_lst (pa_cons (pe_call (ok_law_word_of T) (hr.mono (by decide)) (by rfl) T.g_law_word_of T.F_law_word_of.kp T.b_law_word_of .nil pass0 (pa_cons (pe_call (ok_law_take T) (hr.mono (by decide)) (by rfl) T.g_law_take T.F_law_take.kp T.b_law_take .nil pass0 (pa_cons (pv 0) (pa_cons (pe_call (ok_law_power T) (hr.mono (by decide)) (by rfl) T.g_law_power T.F_law_power.kp T.b_law_power .nil pass0 (pa_cons (pv 2) (pa_cons (pe_op op_sub (pv 3) pe_int) pa_nil))) pa_nil))) (pa_cons (pv 2) (pa_cons (pv 3) pa_nil)))) pa_nil)))
  (pss_cons (ps_for PassesOwn.never rfl (pi_range1 (by rfl) T.range (pa_cons (pe_op op_sub (pv 2) pe_int) pa_nil)) (pg_name (i := 5) sc_law_rule.nd rfl (by first | exact Or.inl rfl | exact Or.inr rfl)) (pss_cons (ps_set (i := 6) sc_law_rule.nd rfl (by first | exact Or.inl rfl | exact Or.inr rfl) (pe_call (ok_law_take T) (hr.mono (by decide)) (by rfl) T.g_law_take T.F_law_take.kp T.b_law_take .nil pass0 (pa_cons (pv 0) (pa_cons (pe_call (ok_law_power T) (hr.mono (by decide)) (by rfl) T.g_law_power T.F_law_power.kp T.b_law_power .nil pass0 (pa_cons (pv 2) (pa_cons (pv 3) pa_nil))) pa_nil))))
  (pss_cons (ps_while PassesOwn.never (pt_cmpR (op_inK (K := K)) (pe_call (ok_law_word_of T) (hr.mono (by decide)) (by rfl) T.g_law_word_of T.F_law_word_of.kp T.b_law_word_of .nil pass0 (pa_cons (pv 6) (pa_cons (pv 2) (pa_cons (pv 3) pa_nil)))) (pv 4) rfl) (pss_one (ps_set (i := 6) sc_law_rule.nd rfl (by first | exact Or.inl rfl | exact Or.inr rfl) (pe_op op_mod (pe_callTy call_intI (by rfl) T.int (by decide +kernel) (pa_cons (pe_op op_add (pv 6) pe_int) pa_nil)) (pe_call (ok_law_power T) (hr.mono (by decide)) (by rfl) T.g_law_power T.F_law_power.kp T.b_law_power .nil pass0 (pa_cons (pv 2) (pa_cons (pv 3) pa_nil)))))))
  (pss_one (ps_expr (pe_bm PySem.F.plainAttrs_list PySem.F.slot_list_append PySem.F.type_list_append mt_append (pv 4) (pa_cons (pe_call (ok_law_word_of T) (hr.mono (by decide)) (by rfl) T.g_law_word_of T.F_law_word_of.kp T.b_law_word_of .nil pass0 (pa_cons (pv 6) (pa_cons (pv 2) (pa_cons (pv 3) pa_nil)))) pa_nil)))))))
  (pss_one (ps_ret (pe_callTy call_tuple_of (by rfl) T.tuple (by decide +kernel) (pa_cons (pv 4) pa_nil)))))))), ?_⟩
    refine ⟨_, rfl, p, c, n, 2, rfl, hp, by omega, by omega, by omega, fun r H1 hr B1 P1 => ?_⟩
    refine ⟨rfl, _, rfl, ?_⟩
    by_cases h0 : r = 0
    · rw [show decide (V.int (r : Int) = V.int 0) = true from decide_eq_true (by rw [h0]; rfl)]
      refine iteT ?_
      refine ⟨by show 2 ≤ sizeLine; decide, ?_⟩
      walk_at "n2"
      refine ⟨by show 2 ≤ sizeLine; decide, ?_⟩
      walk_at "n3"
      refine ⟨by show 4 ≤ sizeLine; decide, ?_⟩
      walk_at "n4"
      refine ⟨by show 2 ≤ sizeLine; decide, ?_⟩
      walk_at "n5"
      refine ⟨by show 3 ≤ sizeLine; decide, ?_⟩
      walk_at "n6"
      refine ⟨by show 5 ≤ sizeLine; decide, ?_⟩
      walk_at "n7"
      refine ⟨_, rfl, ?_⟩
      refine ⟨by show 2 ≤ sizeLine; decide, ?_⟩
      walk_at "n8"
      refine ⟨by show 3 ≤ sizeLine; decide, ?_⟩
      walk_at "n9"
      refine ⟨by show 2 ≤ sizeLine; decide, ?_⟩
      walk_at "n10"
      refine ⟨by show 2 ≤ sizeLine; decide, ?_⟩
      walk_at "n11"
      refine ⟨by show 3 ≤ sizeLine; decide, ?_⟩
      walk_at "n12"
      refine ⟨by show 5 ≤ sizeLine; decide, ?_⟩
      walk_at "n13"
      refine ⟨l7, l13, _, _, rfl, rfl, (S13 _ _ (S12 _ _ (S11 _ _ (S10 _ _ (S9 _ _ (S8 _ _ e7)))))), e13, by show 5 + 5 ≤ sizeLine; decide, ?_⟩
      walk_at "n14"
      refine ⟨_, rfl, _, rfl, ?_⟩
      refine ⟨by show 4 ≤ sizeLine; decide, ?_⟩
      walk_at "n15"
      refine ⟨by show 1 ≤ sizeLine; decide, ?_⟩
      walk_at "n16"
      refine ⟨l14, l16, _, _, rfl, rfl, (S16 _ _ (S15 _ _ e14)), e16, by show 10 + 1 ≤ sizeLine; decide, ?_⟩
      walk_at "n17"
      have T17 : Same H17 H17 := Same.refl _
      have T16 : Same H16 H17 := S17.trans T17
      have T15 : Same H15 H17 := S16.trans T16
      have T14 : Same H14 H17 := S15.trans T15
      have T13 : Same H13 H17 := S14.trans T14
      have T12 : Same H12 H17 := S13.trans T13
      have T11 : Same H11 H17 := S12.trans T12
      have T10 : Same H10 H17 := S11.trans T11
      have T9 : Same H9 H17 := S10.trans T10
      have T8 : Same H8 H17 := S9.trans T9
      have T7 : Same H7 H17 := S8.trans T8
      have T6 : Same H6 H17 := S7.trans T7
      have T5 : Same H5 H17 := S6.trans T6
      have T4 : Same H4 H17 := S5.trans T5
      have T3 : Same H3 H17 := S4.trans T4
      have T2 : Same H2 H17 := S3.trans T3
      have T1 : Same H1 H17 := S2.trans T2
      have P17 := P1.same T1
      refine ⟨p, c, n + 1, .ref l17, rfl, P17, by omega, .inl ⟨l17, _, rfl, SqL.of e17, ((P1.same (((((((((((((((S2).trans S3).trans S4).trans S5).trans S6).trans S7).trans S8).trans S9).trans S10).trans S11).trans S12).trans S13).trans S14).trans S15).trans S16)).ne_free n17).1, by show 0 < 11; decide, by show 11 < 1073741824; decide, fun i v H18 hv B18 P18 => ?_⟩⟩
      have hm := List.mem_of_getElem? hv
      have BB : But p H H18 := B1.trans ((But.of_same T1).trans B18)
      have PP := P18.mono (show n + 1 + 1 ≤ n + 20 by omega)
      have fin : ∀ (b : Addr) (W : List (List Nat)) (vs : List V), v = .ref b → H17 b = some (.tup vs) → W.map vW = vs → ruleB W = true → Q v H18 := fun b W vs e1 e2 e3 e4 => by
        rw [e1]
        refine k b W H18 (P17.tup B18 (SqT.of ?_)) (ruleB_ok e4) BB PP
        rw [e2, e3]
      simp only [List.mem_append, List.mem_cons, List.not_mem_nil, or_false] at hm
      rcases hm with ((hm | hm) | hm)
      · rcases hm with rfl | rfl | rfl | rfl | rfl
        · exact fin l2 [[97, 98], [98, 97]] _ rfl (T2 _ _ e2) (by decide +kernel) (by decide)
        · exact fin l3 [[97, 98], [97, 97]] _ rfl (T3 _ _ e3) (by decide +kernel) (by decide)
        · exact fin l4 [[97, 98], [99, 97], [99, 100], [97, 99]] _ rfl (T4 _ _ e4) (by decide +kernel) (by decide)
        · exact fin l5 [[97, 98, 98], [97, 97, 98]] _ rfl (T5 _ _ e5) (by decide +kernel) (by decide)
        · exact fin l6 [[97, 98, 99], [98, 99, 97], [99, 97, 98]] _ rfl (T6 _ _ e6) (by decide +kernel) (by decide)
      · rcases hm with rfl | rfl | rfl | rfl | rfl
        · exact fin l8 [[97, 98], [98, 97]] _ rfl (T8 _ _ e8) (by decide +kernel) (by decide)
        · exact fin l9 [[97, 98], [97, 99], [98, 97]] _ rfl (T9 _ _ e9) (by decide +kernel) (by decide)
        · exact fin l10 [[97, 98, 98, 97], [98, 97, 97, 98]] _ rfl (T10 _ _ e10) (by decide +kernel) (by decide)
        · exact fin l11 [[97, 97, 98], [98, 98, 97]] _ rfl (T11 _ _ e11) (by decide +kernel) (by decide)
        · exact fin l12 [[97, 98], [99, 98], [98, 99]] _ rfl (T12 _ _ e12) (by decide +kernel) (by decide)
      · subst hm
        · exact fin l15 [[97, 97, 97, 98], [99, 97, 98, 99], [100, 98, 99, 100], [98, 97, 97, 97]] _ rfl (T15 _ _ e15) (by decide +kernel) (by decide)
    · rw [show decide (V.int (r : Int) = V.int 0) = false from decide_eq_false fun z => h0 (by have := V.int.inj z; omega)]
      refine iteF ?_
      walk_at "rd"
      refine ⟨p, c, n + 1, 3, rfl, P1, by omega, by omega, by omega, fun r1 H2 hr1 B2 P2 => ?_⟩
      walk_at "rd"
      refine ⟨p, c, n + 2, 3, rfl, P2, by omega, by omega, by omega, fun r2 H3 hr2 B3 P3 => ?_⟩
      obtain ⟨m, hm⟩ : ∃ m, m = 2 + r1 := ⟨_, rfl⟩
      obtain ⟨s, hs⟩ : ∃ s, s = 2 + r2 := ⟨_, rfl⟩
      refine ⟨_, _, rfl, rfl, .int (m : Int), .int (s : Int), by
        show [V.int (2 + (r1 : Int)), V.int (2 + (r2 : Int))] = _
        rw [show ((2 : Int) + (r1 : Int)) = (m : Int) by omega, show ((2 : Int) + (r2 : Int)) = (s : Int) by omega], ?_⟩
      have hm2 : 2 ≤ m := by omega
      have hm4 : m ≤ 4 := by omega
      have hs2 : 2 ≤ s := by omega
      have hs4 : s ≤ 4 := by omega
      clear hm hs
      have pw : ∀ k, k ≤ 4 → 0 < m ^ k ∧ m ^ k ≤ 256 := fun k hk => ⟨Nat.pow_pos (by omega), Nat.le_trans (Nat.pow_le_pow_left hm4 k) (Nat.le_trans (Nat.pow_le_pow_right (by decide) hk) (by decide))⟩
      refine ⟨_, rfl, _, rfl, _, rfl, _, _, rfl, rfl, m, s - 1, (by
        show [V.int (m : Int), V.int ((s : Int) - 1)] = _
        rw [show ((s : Int) - 1) = ((s - 1 : Nat) : Int) by omega]), by omega, by omega, fun H4 S4 => ?_⟩
      obtain ⟨pw1, pw2⟩ := pw (s - 1) (by omega)
      refine ⟨p, c, n + 3, m ^ (s - 1), rfl, P3.same S4, by omega, pw1, by omega, fun q H5 hq B5 P5 => ?_⟩
      refine ⟨_, rfl, _, rfl, q, m, s, rfl, hm2, hm4, by omega, by show 1 ≤ sizeLine; decide, ?_⟩
      walk_at "n6"
      have B6 : But p H H6 := (((((B1.trans B2).trans B3).trans (But.of_same S4)).trans B5).trans (But.of_same S6))
      have nH6 : H l6 = none := ((((B1.trans B2).trans B3).trans (But.of_same S4)).trans B5).free n6 (P5.ne_free n6).1
      have P6 := P5.same S6
      have nl := P5.ne_free n6
      have w0 : ∃ t, wordA m q s = 97 :: t := by
        obtain ⟨s', rfl⟩ : ∃ s', s = s' + 1 := ⟨s - 1, by omega⟩
        rw [Nat.add_sub_cancel] at hq
        exact ⟨wordA m q s', by rw [wordA, Nat.div_eq_of_lt hq, Nat.zero_mod]⟩
      obtain ⟨M1, M2⟩ := pw s hs4
      have M4 : 4 ≤ m ^ s := Nat.le_trans (Nat.pow_le_pow_left hm2 2) (Nat.pow_le_pow_right (by omega) hs2)
      refine ⟨_, rfl, _, _, rfl, rfl, _, rfl, by omega, by omega, for_it (D := { nx := _, rt := Q, bk := fun _ _ => True, ct := fun _ _ => True }) walk_rangeN (fun i σ H' => ∃ (y5 y6 : Option V) (ws : List (List Nat)), σ = [some (.ref p), none, some (.int (m : Int)), some (.int (s : Int)), some (.ref l6), y5, y6] ∧ But p H H' ∧ Pen H' p c (n + 4 + i) ∧ H' l6 = some (.lst (ws.map vW)) ∧
          ws.length = 1 + i ∧ ws.Nodup ∧ (∀ w ∈ ws, w.length = s ∧ ∀ c ∈ w, 97 ≤ c ∧ c < 97 + m) ∧ ∃ t, ws[0]? = some (97 :: t)) ⟨none, none, [wordA m q s], rfl, B6, P6, e6, rfl, List.nodup_cons.mpr ⟨fun h => (nomatch h), List.nodup_nil⟩, fun w hw => ?_, ?_⟩ (fun _ _ _ _ _ => trivial) ?_ ?_⟩
      · rw [List.mem_singleton.mp hw]
        exact ⟨wordA_len m q s, wordA_in (by omega) q s⟩
      · obtain ⟨t, ht⟩ := w0
        exact ⟨t, by rw [ht]; rfl⟩
      · rintro i x σ H7 H8 hi ⟨y5, y6, ws, rfl, B7, P7, e7, hl, hnd, hws, hw0⟩ ⟨rfl, rfl⟩
        refine ⟨_, rfl, _, rfl, _, rfl, m, s, rfl, by omega, by omega, fun H8 S8 => ?_⟩
        refine ⟨p, c, n + 4 + i, m ^ s, rfl, P7.same S8, by omega, M1, by omega, fun u H9 hu B9 P9 => ?_⟩
        have e9 := B9 _ _ nl.1 (S8 _ _ e7)
        have B79 : But p H H9 := (B7.trans (But.of_same S8)).trans B9
        obtain ⟨j0, hj0, hfree⟩ := word_free (n := u) M4 (ws := ws) (by omega)
        refine while_gh (fun f σ H' => ∃ j : Nat, f + j = 4 ∧ σ = [some (.ref p), none, some (.int (m : Int)), some (.int (s : Int)), some (.ref l6), some (vN i), some (.int (((u + j) % m ^ s : Nat) : Int))] ∧ Same H9 H' ∧ ∀ k, k < j → wordA m ((u + k) % m ^ s) s ∈ ws) (n := 4)
          ⟨0, rfl, by rw [Nat.add_zero, Nat.mod_eq_of_lt hu]; rfl, Same.refl _, fun _ h => absurd h (Nat.not_lt_zero _)⟩ ?_
        rintro f σ H10 ⟨j, hf, rfl, s10, hin⟩ R hR
        have e10 := s10 _ _ e9
        refine ⟨_, rfl, _, rfl, _, rfl, _, m, s, rfl, hm2, hm4, by omega, ?_⟩
        refine ⟨_, rfl, l6, _, rfl, .inl (SqL.of e10), rfl, flat_words _, _, rfl, ?_⟩
        refine hR _ _ ?_
        clear hR
        have eI : (if false = true then !inV (V.str (S (wordA m ((u + j) % m ^ s) s))) (ws.map vW) else inV (V.str (S (wordA m ((u + j) % m ^ s) s))) (ws.map vW)) = decide (wordA m ((u + j) % m ^ s) s ∈ ws) := by
          rw [if_neg Bool.false_ne_true]
          exact in_words _ _
        rw [eI]
        by_cases hin2 : wordA m ((u + j) % m ^ s) s ∈ ws
        · rw [decide_eq_true hin2]
          have hin3 : ∀ k, k < j + 1 → wordA m ((u + k) % m ^ s) s ∈ ws := fun k hk => by
            rcases Nat.lt_or_ge k j with h | h
            · exact hin k h
            · rw [show k = j by omega]; exact hin2
          have hj : j + 1 ≤ j0 := Nat.le_of_not_lt fun h => hfree (hin3 j0 h)
          refine iteT ⟨_, rfl, _, _, rfl, rfl, _, rfl, _, rfl, _, rfl, m, s, rfl, by omega, by omega, fun H11 S11 => ?_⟩
          refine ⟨_, _, rfl, rfl, by omega, f - 1, by omega, j + 1, by omega, ?_, s10.trans S11, hin3⟩
          have e : ((((u + j) % m ^ s : Nat) : Int) + 1) % ((m ^ s : Nat) : Int) = (((u + (j + 1)) % m ^ s : Nat) : Int) := by
            rw [show (((u + j) % m ^ s : Nat) : Int) + 1 = (((u + j) % m ^ s + 1 : Nat) : Int) by omega, ← Int.natCast_emod, Nat.mod_add_mod, Nat.add_assoc]
          rw [← e]
          rfl
        · rw [decide_eq_false hin2]
          refine iteF ?_
          refine ⟨_, rfl, .inl ⟨rfl, _, SqL.of e10⟩, _, rfl, _, rfl, _, rfl, _, m, s, rfl, hm2, hm4, by omega, l6, _, _, rfl, rfl, e10, by rw [List.length_map, sizeLine_eq]; omega, ?_⟩
          have nin : wordA m ((u + j) % m ^ s) s ∉ ws := hin2
          refine ⟨_, _, ws ++ [wordA m ((u + j) % m ^ s) s], rfl, (B79.trans (But.of_same s10)).own nH6, ?_, ?_, ?_, ?_, ?_, ?_⟩
          · exact (P9.same s10).list nl |>.mono (by omega)
          · rw [upd_same, List.map_append]
            rfl
          · rw [List.length_append, hl]; rfl
          · exact List.nodup_append.mpr ⟨hnd, List.nodup_cons.mpr ⟨fun h => (nomatch h), List.nodup_nil⟩, fun a ha b hb => by rw [List.mem_singleton.mp hb]; exact fun z => nin (z ▸ ha)⟩
          · intro w hw
            rcases List.mem_append.mp hw with h | h
            · exact hws w h
            · rw [List.mem_singleton.mp h]
              exact ⟨wordA_len _ _ _, wordA_in (by omega) _ _⟩
          · obtain ⟨t, ht⟩ := hw0
            refine ⟨t, ?_⟩
            rw [List.getElem?_append_left (by omega)]
            exact ht
      · rintro σ H7 ⟨y5, y6, ws, rfl, B7, P7, e7, hl, hnd, hws, hw0⟩
        refine ⟨_, rfl, l6, _, rfl, .inl ⟨SqL.of e7, ?_⟩⟩
        walk_at "n8"
        have hl2 : ws.length = m := by omega
        exact k l8 ws H8 (SqT.of e8) ⟨by omega, by omega, ⟨s, hs2, hs4, by rw [hl2]; exact hws⟩, hnd, hw0⟩ (B7.trans (But.of_same S8)) ((P7.same S8).mono (by omega))

/-! ### _law_image -/
def sp_law_image (K : PySem.W.Frag) : Sp := fun vs H Q _ => ∃ (a : Addr) (W : List (List Nat)) (l : List Nat), vs = [.ref a, .str (S l)] ∧ SqT K H a (W.map vW) ∧ W.length ≤ 4 ∧ (∀ w ∈ W, w.length ≤ 4) ∧ l.length ≤ 1000 ∧ (∀ c ∈ l, 97 ≤ c ∧ c < 97 + W.length) ∧ ∀ H', Same H H' → Q (.str (S (imgL W l))) H'
theorem ok_law_image (T : Txt K mg A) : FnOk P w K mg base CX0 1 A.f_law_image A.d_law_image ["rule", "word"] (sp_law_image K) := by
  refine T.F_law_image.ok sc_law_image (fun vs H Q E h => ?_) (fun cdv A' outer s H vs Q E hr h => ?_)
  · obtain ⟨a, W, l, rfl, _⟩ := h
    rfl
  · obtain ⟨a, W, l, rfl, ha, hW, hw, hl, hc, k⟩ := h
    refine ⟨_, (pss_one (ps_ret (pe_join pe_str (pe_lc (own := [("letter", 2)]) (g := gName 2) (tt := tYes) (by rfl) sc_law_image.nd (pi_str (pv 1)) (blkOk_by (own := [("letter", 2)]) (N := ["rule", "word", "letter"]) (sc := defScope s_law_image) (by decide +kernel)) (fun _ _ _ _ _ => (pg_name (i := 2) sc_law_image.nd rfl (by first | exact Or.inl rfl | exact Or.inr rfl))) (fun _ _ _ _ _ => pts_nil) (fun _ _ _ _ _ => (pe_ix (ix_tupK (K := K)) (pv 0) (pe_idx pe_str (pv 2)) (fun _ _ => rfl))))))), ?_⟩
    have hs4 : ∀ c, 97 ≤ c ∧ c < 97 + W.length → c ∈ [97, 98, 99, 100] ∧ [97, 98, 99, 100].idxOf c = c - 97 := fun c h => by
      have key : ∀ n, n < 4 → (97 + n) ∈ [97, 98, 99, 100] ∧ [97, 98, 99, 100].idxOf (97 + n) = n := by decide
      obtain ⟨h1, h2⟩ := h
      have e : 97 + (c - 97) = c := by omega
      have := key (c - 97) (by omega)
      rw [e] at this
      exact this
    refine ⟨⟨_, rfl⟩, _, rfl, S l, rfl, fun D hD => ?_⟩
    refine lc_map l (fun c => vW (W[c - 97]?.getD [])) walk_S hD (by omega) (fun _ _ => trivial) ?_ ?_
    · rintro i c x H2 H3 R hx s2 ⟨rfl, x', hx', rfl⟩ hR
      obtain rfl : c = x' := Option.some.inj (hx.symm.trans hx')
      have hcl := hc c (List.mem_of_getElem? hx)
      obtain ⟨m1, m2⟩ := hs4 c hcl
      have hlt : c - 97 < W.length := by omega
      refine ⟨rfl, _, rfl, ⟨_, rfl⟩, _, rfl, [97, 98, 99, 100], c, congrArg V.str (by decide +kernel), rfl, m1, a, _, _, _, rfl, rfl, same_tup s2 ha, ?_, hR H3 (Same.refl H3)⟩
      rw [m2]
      exact atI_nat (by rw [List.getElem?_map, List.getElem?_eq_getElem hlt]; rfl)
    · intro H2 s2 g2
      have g3 : H2 D = some (.lst (((l.map fun c => W[c - 97]?.getD []).map S).map V.str)) := by rw [List.map_map, List.map_map]; exact g2
      refine ⟨S [], D, _, rfl, rfl, .inl (SqL.of g3), join_ok 4 (fun y hy => ?_) (by rw [List.length_map]; omega), ?_⟩
      · obtain ⟨c, _, rfl⟩ := List.mem_map.mp hy
        cases e : W[c - 97]? with
        | none => exact Nat.zero_le _
        | some w => exact hw w (List.mem_of_getElem? e)
      rw [join0, ← List.flatMap_def]
      exact k H2 s2

/-! ### _law_start -/
def sp_law_start (K : PySem.W.Frag) : Sp := fun vs H Q _ => ∃ (a : Addr) (W : List (List Nat)) (s n : Nat), vs = [.ref a, .int (n : Int)] ∧ SqT K H a (W.map vW) ∧ RuleW W s ∧ n ≤ 200 ∧
  ∀ (i : Nat) H', Same H H' → n ≤ s ^ i → (∀ j, j < i → s ^ j < n) → Q (.str (S ((growN W i).take n))) H'
theorem ok_law_start (T : Txt K mg A) : FnOk P w K mg base CX0 2 A.f_law_start A.d_law_start ["rule", "length"] (sp_law_start K) := by
  refine T.F_law_start.ok sc_law_start (fun vs H Q E h => ?_) (fun cdv A' outer s H vs Q E hr h => ?_)
  · obtain ⟨a, W, s, n, rfl, _⟩ := h
    rfl
  · obtain ⟨a, W, s, n, rfl, ha, hW, hn, k⟩ := h
    refine ⟨_, (pss_cons (ps_set (i := 2) sc_law_start.nd rfl (by first | exact Or.inl rfl | exact Or.inr rfl) pe_str)
  (pss_cons (ps_while PassesOwn.never (pt_cmpR op_lt (pe_callB call_len_str (by rfl) T.len PySem.boot_len (pa_cons (pv 2) pa_nil)) (pv 1) (nomark _)) (pss_one (ps_set (i := 2) sc_law_start.nd rfl (by first | exact Or.inl rfl | exact Or.inr rfl) (pe_call (ok_law_image T) hr (by rfl) T.g_law_image T.F_law_image.kp T.b_law_image .nil pass0 (pa_cons (pv 0) (pa_cons (pv 2) pa_nil))))))
  (pss_one (ps_ret (pe_slice sl_str (pv 2) po_none (po_some (pv 1))))))), ?_⟩
    have hs2 := hW.2.2.1
    have hs4 := hW.2.2.2.1
    have hbig : ∀ i, (∀ j, j < i → s ^ j < n) → i ≤ 8 := fun i h => Nat.le_of_not_lt fun z => by
      have h1 := h 8 z
      have h2 : 2 ^ 8 ≤ s ^ 8 := Nat.pow_le_pow_left hs2 8
      omega
    have hle : ∀ i, i ≤ 8 → s ^ i ≤ 4 ^ 8 := fun i h => Nat.le_trans (Nat.pow_le_pow_left hs4 i) (Nat.pow_le_pow_right (by decide) h)
    refine while_gh (fun m σ H' => ∃ i : Nat, m + i = 9 ∧ σ = [some (.ref a), some (.int (n : Int)), some (.str (S (growN W i)))] ∧ Same H H' ∧ ∀ j, j < i → s ^ j < n) (n := 9)
      ⟨0, rfl, rfl, Same.refl H, fun _ h => absurd h (Nat.not_lt_zero _)⟩ ?_
    rintro m σ H2 ⟨i, hm, rfl, s2, hlt⟩ R hR
    obtain ⟨g1, g2⟩ := grow_ok hW i
    have hi8 := hbig i hlt
    have hl8 := hle i hi8
    refine ⟨_, rfl, _, rfl, by rw [len_S, sizeLine_eq, g1]; omega, _, rfl, _, _, rfl, rfl, _, rfl, hR _ _ ?_⟩
    clear hR
    rw [len_S, g1]
    by_cases hc : s ^ i < n
    · rw [decide_eq_true (by omega)]
      refine iteT ⟨_, rfl, _, rfl, a, W, growN W i, rfl, same_tup s2 ha, hW.2.1, fun w hw => by rw [(hW.2.2.2.2 w hw).1]; exact hs4, by omega, g2, fun H3 S3 => ?_⟩
      have hlt2 : ∀ j, j < i + 1 → s ^ j < n := fun j hj => by
        rcases Nat.lt_or_ge j i with h | h
        · exact hlt j h
        · rw [show j = i by omega]; exact hc
      have hi9 := hbig (i + 1) hlt2
      exact ⟨m - 1, by omega, i + 1, by omega, rfl, s2.trans S3, hlt2⟩
    · rw [decide_eq_false (by omega)]
      refine iteF ⟨_, rfl, ?_⟩
      dsimp only [tNoPart]
      refine ⟨_, rfl, _, rfl, _, rfl, by rw [len_S, sizeLine_eq, g1]; omega, ?_⟩
      rw [cutS_S, cutL_pre]
      exact k i H2 s2 (by omega) hlt

/-! ### _law_text -/
def sp_law_text (K : PySem.W.Frag) : Sp := fun vs H Q _ => ∃ (p c : Addr) (n : Nat) (a : Addr) (W : List (List Nat)) (most : Nat), vs = [.ref p, .ref a, .int (most : Int)] ∧ Pen H p c n ∧ n + 100 ≤ 1000000 ∧ SqT K H a (W.map vW) ∧ 1 ≤ W.length ∧ W.length ≤ 4 ∧ most ≤ 90 ∧
  ∀ (l : List Nat) H', l.length ≤ most → (∀ c ∈ l, 97 ≤ c ∧ c < 97 + W.length) → But p H H' → Pen H' p c (n + 100) → Q (.str (S l)) H'
theorem ok_law_text (T : Txt K mg A) : FnOk P w K mg base CX0 4 A.f_law_text A.d_law_text ["pen", "rule", "most"] (sp_law_text K) := by
  refine T.F_law_text.ok sc_law_text (fun vs H Q E h => ?_) (fun cdv A' outer s0 H vs Q E hr h => ?_)
  · obtain ⟨p, c, n, a, W, most, rfl, _⟩ := h
    rfl
  · obtain ⟨p, c, n, a, W, most, rfl, hp, hn, ha, hW1, hW4, hm, k⟩ := h
    refine ⟨_, (pss_one (ps_ret (pe_join pe_str (pe_lc (own := [("step", 3)]) (g := gName 3) (tt := tYes) (by rfl) sc_law_text.nd (pi_range1 (by rfl) T.range (pa_cons (pe_call (ok_law_take T) (hr.mono (by decide)) (by rfl) T.g_law_take T.F_law_take.kp T.b_law_take .nil pass0 (pa_cons (pv 0) (pa_cons (pe_op op_add (pv 2) pe_int) pa_nil))) pa_nil)) (blkOk_by (own := [("step", 3)]) (N := ["pen", "rule", "most", "step"]) (sc := defScope s_law_text) (by decide +kernel)) (fun _ _ _ _ _ => (pg_name (i := 3) sc_law_text.nd rfl (by first | exact Or.inl rfl | exact Or.inr rfl))) (fun _ _ _ _ _ => pts_nil) (fun _ _ _ _ _ => (pe_call (ok_law_one T) hr (by rfl) T.g_law_one T.F_law_one.kp T.b_law_one .nil pass0 (pa_cons (pv 0) (pa_cons (pe_slice (sl_listK (K := K)) (pe_callTy (cr_listS rfl) (by rfl) T.list (by decide +kernel) (pa_cons pe_str pa_nil)) po_none (po_some (pe_callB (call_lenK (K := K)) (by rfl) T.len PySem.boot_len (pa_cons (pv 1) pa_nil)))) pa_nil)))))))), ?_⟩
    refine ⟨⟨_, rfl⟩, _, rfl, _, rfl, _, _, rfl, rfl, p, c, n, most + 1, rfl, hp, by omega, by omega, by omega, fun size H1 hsz B1 P1 => ?_⟩
    refine ⟨(size : Int), rfl, by omega, by omega, fun D hD => ?_⟩
    have nD := P1.ne_free hD
    rw [Int.toNat_natCast]
    refine lc_it walk_rangeN (fun i H' => But p H1 H' ∧ Pen H' p c (n + 1 + i) ∧ ∃ w : List Nat, w.length = i ∧ (∀ c ∈ w, 97 ≤ c ∧ c < 97 + W.length) ∧ H' D = some (.lst (w.map fun c => V.str (S [c]))))
      ⟨(But.refl p H1).new hD, P1.new hD, [], rfl, (fun _ h => nomatch h), upd_same⟩ (fun _ _ _ _ => trivial) ?_ ?_
    · rintro i x H6 H7 hi ⟨B6, P6, w, hw, hin, g6⟩ ⟨rfl, rfl⟩
      refine ⟨rfl, yesT ⟨_, rfl, [97, 98, 99, 100], congrArg (fun z => [V.str z]) (by decide +kernel), by decide, ?_⟩⟩
      walk_at "n3"
      dsimp only [tNoPart]
      have ha1 : SqT K H7 a (W.map vW) := hp.tup (B1.trans B6) ha
      refine ⟨_, rfl, a, _, rfl, .inr (same_tup S3 ha1), _, rfl, l3, _, rfl, SqL.of e3, ?_⟩
      walk_at "n4"
      rw [cutV_L, List.length_map, cutL_map, cutL_pre] at e4
      have hlen : (([97, 98, 99, 100] : List Nat).take W.length).length = W.length := by
        rw [List.length_take]
        exact Nat.min_eq_left hW4
      refine ⟨p, c, n + 1 + i, .ref l4, rfl, (P6.same S3).same S4, by omega, .inl ⟨l4, _, rfl, SqL.of e4, ((P6.same S3).ne_free n4).1, by rw [List.length_map, hlen]; omega, by rw [List.length_map, hlen]; omega, fun r v H8 hv B8 P8 => ?_⟩⟩
      rw [List.getElem?_map] at hv
      obtain ⟨d, hd, rfl⟩ := Option.map_eq_some_iff.mp hv
      have key : ∀ m, m ≤ 4 → ∀ c ∈ ([97, 98, 99, 100] : List Nat).take m, 97 ≤ c ∧ c < 97 + m := by
        have : ∀ m, m < 5 → ∀ c ∈ ([97, 98, 99, 100] : List Nat).take m, 97 ≤ c ∧ c < 97 + m := by decide
        exact fun m hm => this m (by omega)
      refine ⟨_, B8 _ _ nD.1 (S4 _ _ (S3 _ _ g6)), ?_, (B6.trans ((But.of_same (S3.trans S4)).trans B8)).own hD, P8.list nD, w ++ [d], ?_, ?_, ?_⟩
      · rw [List.length_map, hw, sizeLine_eq]; omega
      · rw [List.length_append, hw]; rfl
      · intro x hx
        rcases List.mem_append.mp hx with h | h
        · exact hin x h
        · rw [List.mem_singleton] at h
          subst h
          exact key _ hW4 _ (List.mem_of_getElem? hd)
      · rw [upd_same, List.map_append]
        rfl
    · rintro H6 ⟨B6, P6, w, hw, hin, g6⟩
      rw [map_sg (fun c => c)] at g6
      refine ⟨S [], D, _, rfl, rfl, .inl (SqL.of g6), join_ok1 _ (by omega), ?_⟩
      rw [join0, flat1, List.map_id']
      exact k w H6 (by omega) hin (B1.trans B6) (P6.mono (by omega))

/-! ### _law_parts, of a word -/
def sp_law_parts : Sp := fun vs H Q _ => ∃ (w : List Nat) (n : Nat), vs = [.str (S w), .int (n : Int)] ∧ w.length ≤ 5000 ∧ n ≤ 5000 ∧ ∀ a H', H a = none → Same H H' → H' a = some (.lst ((winL n w).map vW)) → Q (.ref a) H'
theorem ok_law_parts (T : Txt K mg A) : FnOk P w K mg base CX0 1 A.f_law_parts A.d_law_parts ["word", "length"] sp_law_parts := by
  refine T.F_law_parts.ok sc_law_parts (fun vs H Q E h => ?_) (fun cdv A' outer s0 H vs Q E hr h => ?_)
  · obtain ⟨w, n, rfl, _⟩ := h
    rfl
  · obtain ⟨w, n, rfl, hw, hn, k⟩ := h
    refine ⟨_, (pss_one (ps_ret (pe_lc (own := [("k", 2)]) (g := gName 2) (tt := tYes) (by rfl) sc_law_parts.nd (pi_range1 (by rfl) T.range (pa_cons (pe_op op_add (pe_op op_sub (pe_callB call_len_str (by rfl) T.len PySem.boot_len (pa_cons (pv 0) pa_nil)) (pv 1)) pe_int) pa_nil)) (blkOk_by (own := [("k", 2)]) (N := ["word", "length", "k"]) (sc := defScope s_law_parts) (by decide +kernel)) (fun _ _ _ _ _ => (pg_name (i := 2) sc_law_parts.nd rfl (by first | exact Or.inl rfl | exact Or.inr rfl))) (fun _ _ _ _ _ => pts_nil) (fun _ _ _ _ _ => (pe_slice sl_str (pv 0) (po_some (pv 2)) (po_some (pe_op op_add (pv 2) (pv 1)))))))), ?_⟩
    have hsz : sizeLine = 16777216 := sizeLine_eq
    refine ⟨_, rfl, S w, rfl, by rw [len_S]; omega, _, rfl, _, _, rfl, rfl, _, _, rfl, rfl, _, rfl, by rw [len_S]; omega, by rw [len_S]; omega, fun D hD => ?_⟩
    rw [len_S]
    have wk : Walk (Itr 0 (((w.length : Int) - (n : Int) + 1).toNat)) (List.range (w.length + 1 - n)).length (fun _ => True) (YFn vN) := by
      rw [List.length_range, show ((w.length : Int) - (n : Int) + 1).toNat = w.length + 1 - n by omega]
      exact walk_rangeN
    refine lc_map (List.range (w.length + 1 - n)) (fun k => vW ((w.drop k).take n)) wk hD (by rw [List.length_range]; omega) (fun _ _ => trivial) ?_ ?_
    · rintro i j x H2 H3 R hj s2 ⟨rfl, rfl⟩ hR
      have hlt : i < w.length + 1 - n := by
        have := (List.getElem?_eq_some_iff.mp hj).1
        rwa [List.length_range] at this
      rw [List.getElem?_range hlt] at hj
      obtain rfl : i = j := Option.some.inj hj
      refine ⟨rfl, _, rfl, _, rfl, _, rfl, _, rfl, _, rfl, _, _, rfl, rfl, _, rfl, S w, rfl, by rw [len_S]; omega, ?_⟩
      rw [cutS_S, show ((i : Int) + (n : Int)) = ((i + n : Nat) : Int) by omega, cutL_mid, List.drop_take, Nat.add_sub_cancel_left]
      exact hR _ (Same.refl _)
    · intro H2 S2 e2
      exact k D H2 hD S2 (by rw [e2]; unfold winL; rw [List.map_map]; rfl)

/-! ### _law_pairs -/
def sp_law_pairs (K : PySem.W.Frag) : Sp := fun vs H Q _ => ∃ (a : Addr) (W : List (List Nat)) (s n : Nat), vs = [.ref a, .int (n : Int)] ∧ SqT K H a (W.map vW) ∧ RuleW W s ∧ 1 ≤ n ∧ n ≤ 200 ∧ W.length ^ n ≤ 65536 ∧
  ∀ (b : Addr) (zs : List (Addr × WC)) H', H b = none → Same H H' → H' b = some (.lst (zs.map vZ)) → AtZ H' zs → (zs.map (·.2)).Nodup → (∀ p, p ∈ zs.map (·.2) ↔ RchP W s n (stL W s n) p) → Q (.ref b) H'
theorem ok_law_pairs (T : Txt K mg A) : FnOk P w K mg base CX0 3 A.f_law_pairs A.d_law_pairs ["rule", "length"] (sp_law_pairs K) := by
  refine T.F_law_pairs.ok sc_law_pairs (fun vs H Q E h => ?_) (fun cdv A' outer s0 H vs Q E hr h => ?_)
  · obtain ⟨a, W, s, n, rfl, _⟩ := h
    rfl
  · obtain ⟨a, W, s, n, rfl, ha, hW, hn1, hn, hN, k⟩ := h
    refine ⟨_, (pss_cons (ps_set (i := 2) sc_law_pairs.nd rfl (by first | exact Or.inl rfl | exact Or.inr rfl) (pe_tup (pa_cons (pe_call (ok_law_start T) hr (by rfl) T.g_law_start T.F_law_start.kp T.b_law_start .nil pass0 (pa_cons (pv 0) (pa_cons (pv 1) pa_nil))) (pa_cons pe_int pa_nil))))
  (pss_cons (ps_par (i := 3) (j := 4) (by rfl) sc_law_pairs.nd rfl rfl (by decide) rfl rfl (pa_cons (pe_dispT (hu_of hr) (pv 2) pe_bl) (pa_cons (pe_lst (pa_cons (pv 2) pa_nil)) pa_nil)) (by rfl))
  (pss_cons (ps_while PassesOwn.never (pt_cmpR (op_neD hr.units) (pv 4) (pe_lst pa_nil) (nomark _)) (pss_one (ps_for PassesOwn.never rfl (pi_enum (by rfl) T.enumerate (pa_cons (pe_call (ok_law_parts T) (hr.mono (by decide)) (by rfl) T.g_law_parts T.F_law_parts.kp T.b_law_parts .nil pass0 (pa_cons (pe_call (ok_law_image T) (hr.mono (by decide)) (by rfl) T.g_law_image T.F_law_image.kp T.b_law_image .nil pass0 (pa_cons (pv 0) (pa_cons (pe_ix (ix_tupK (K := K)) (pe_bm0 PySem.F.plainAttrs_list PySem.F.slot_list_pop PySem.F.type_list_pop mt_pop (pv 4)) pe_int (fun _ _ => rfl)) pa_nil))) (pa_cons (pv 1) pa_nil))) pa_nil)) (pg_tup (by rfl) (pgs_cons (pg_name (i := 5) sc_law_pairs.nd rfl (by first | exact Or.inl rfl | exact Or.inr rfl)) (pgs_cons (pg_name (i := 6) sc_law_pairs.nd rfl (by first | exact Or.inl rfl | exact Or.inr rfl)) pgs_nil))) (pss_cons (ps_set (i := 7) sc_law_pairs.nd rfl (by first | exact Or.inl rfl | exact Or.inr rfl) (pe_tup (pa_cons (pv 6) (pa_cons (pe_op op_mod (pe_callTy call_intI (by rfl) T.int (by decide +kernel) (pa_cons (pv 5) pa_nil)) (pe_callB call_len_str (by rfl) T.len PySem.boot_len (pa_cons (pe_ix (ix_tupK (K := K)) (pv 0) pe_int (fun _ _ => rfl)) pa_nil))) pa_nil))))
  (pss_one (ps_if (pt_cmp (pc_dnotin (hu_of hr) (pv 7) (pv 3)) rfl) (pss_cons (ps_dput (hu_of hr) (pv 3) (pv 7) pe_bl rfl)
  (pss_one (ps_expr (pe_bm PySem.F.plainAttrs_list PySem.F.slot_list_append PySem.F.type_list_append mt_append (pv 4) (pa_cons (pv 7) pa_nil))))) pss_nil))))))
  (pss_one (ps_ret (pe_callB cr_sortTI (by rfl) T.sorted (by decide +kernel) (pa_cons (pe_callTy (call_list_dT rfl) (by rfl) T.list (by decide +kernel) (pa_cons (pv 3) pa_nil)) pa_nil))))))), ?_⟩
    have hsz : sizeLine = 16777216 := sizeLine_eq
    have hs2 := hW.2.2.1
    have hs4 := hW.2.2.2.1
    refine ⟨_, rfl, _, rfl, a, W, s, n, rfl, ha, hW, hn, fun i H1 S1 h1 h2 => ?_⟩
    have e0 := stL_of (W := W) h1 h2
    have st0 : (stL W s n).length = n ∧ ∀ c ∈ stL W s n, 97 ≤ c ∧ c < 97 + W.length := by
      rw [← e0]
      obtain ⟨g1, g2⟩ := grow_ok hW i
      exact ⟨by rw [List.length_take, g1, Nat.min_eq_left h1], fun c hc => g2 c (List.mem_of_mem_take hc)⟩
    rw [e0]
    generalize hst : stL W s n = st at st0 k
    refine ⟨by show 2 ≤ sizeLine; decide, ?_⟩
    walk_at "n2"
    have hN2 : W.length ^ n * s ≤ 65536 * 4 := Nat.mul_le_mul hN hs4
    have hN1 : 1 ≤ W.length ^ n * s := Nat.mul_pos (Nat.pow_pos (by have := hW.1; omega)) (by omega)
    intro fp nfp
    generalize hA : upd H2 fp _ = HA
    obtain ⟨SA, eA⟩ := nw hA nfp
    clear hA
    refine ⟨_, rfl, l2, keyWC (st, 0), rfl, SA _ _ e2, eA, ?_⟩
    generalize hB : upd HA fp _ = HB
    have SB : Same H2 HB := by rw [← hB]; exact SA.own nfp
    have eB : HB fp = some (.dT (kvWC [(st, 0)])) := by rw [← hB, upd_same]; rfl
    clear hB SA eA
    refine ⟨_, rfl, by show 1 ≤ sizeLine; decide, ?_⟩
    walk_at "n3"
    refine ⟨_, _, rfl, ?_⟩
    have S03 : Same H H3 := ((S1.trans S2).trans SB).trans S3
    have nfH : H fp = none := (S1.trans S2).free nfp
    have nl3 : H l3 = none := ((S1.trans S2).trans SB).free n3
    have nlf : l3 ≠ fp := ne_of_none eB n3 |>.symm
    refine while_gh (fun m σ H' => ∃ (fk : List WC) (zs : List (Addr × WC)) (y5 y6 y7 : Option V), m = zs.length + 2 * (W.length ^ n * s - fk.length) ∧ m ≤ 2 * (W.length ^ n * s) ∧ σ = [some (.ref a), some (.int (n : Int)), some (.ref l2), some (.ref fp), some (.ref l3), y5, y6, y7] ∧
        Same H H' ∧ H' fp = some (.dT (kvWC fk)) ∧ H' l3 = some (.lst (zs.map vZ)) ∧ AtZ H' zs ∧ fk.Nodup ∧ (∀ p ∈ fk, RchP W s n st p) ∧ (st, 0) ∈ fk ∧ (∀ z ∈ zs, z.2 ∈ fk) ∧
        ∀ p ∈ fk, (∃ z ∈ zs, z.2 = p) ∨ ∀ j, j + n ≤ (imgL W p.1).length → (((imgL W p.1).drop j).take n, j % s) ∈ fk) (n := 1 + 2 * (W.length ^ n * s - 1))
      ⟨[(st, 0)], [(l2, (st, 0))], none, none, none, rfl, by omega, rfl, S03, S3 _ _ eB, e3, fun z hz => ?_, List.nodup_cons.mpr ⟨fun h => (nomatch h), List.nodup_nil⟩, fun p hp => ?_, List.mem_singleton.mpr rfl, fun z hz => ?_, fun p hp => ?_⟩ ?_
    · rw [List.mem_singleton.mp hz]; exact S3 _ _ (SB _ _ e2)
    · rw [List.mem_singleton.mp hp]; exact .start
    · rw [List.mem_singleton.mp hz]; exact List.mem_singleton.mpr rfl
    · rw [List.mem_singleton.mp hp]; exact .inl ⟨_, List.mem_singleton.mpr rfl, rfl⟩
    rintro m σ H4 ⟨fk, zs, y5, y6, y7, hm, hm2, rfl, s4, ef, el, hz, hnd, hr, h0, hzf, hcl⟩ R hR
    refine ⟨_, rfl, by show 0 ≤ sizeLine; decide, ?_⟩
    walk_at "n5"
    have hin : ∀ p ∈ fk, p.1.length = n ∧ ∀ c ∈ p.1, 97 ≤ c ∧ c < 97 + W.length := fun p hp => rch_in hW st0 (rchP_rch (hr p hp))
    have hcode : ∀ z ∈ zs, ∀ c ∈ z.2.1, c < 0x110000 := fun z hz' c hc => by
      have := (hin _ (hzf z hz')).2 c hc
      have := hW.2.1
      omega
    refine ⟨_, _, .lst (SqL.of (S5 _ _ el)) (dpZ (hz.same S5)), .lst (SqL.of e5) .nil, shapedZ hcode, shapedZ (zs := []) (fun _ h => nomatch h), _, rfl, hR _ _ ?_⟩
    clear hR
    rw [eqv_nil]
    by_cases hz0 : zs = []
    · subst hz0
      rw [show (!decide (([] : List (Addr × WC)).map dZ = [])) = false from rfl]
      have S45 := s4.trans S5
      refine iteF ⟨_, rfl, fp, _, rfl, .inl (S5 _ _ ef), fun lp bs nlp hk => ?_⟩
      obtain ⟨zs, rfl, ez, az⟩ := keys_zs hk
      generalize hL : upd H5 lp _ = HL
      obtain ⟨SL, eL⟩ := nw hL nlp
      clear hL
      obtain ⟨key, hkey⟩ := keyZ az
      have eL' : HL lp = some (.lst (zs.map vZ)) := by rw [eL, List.map_map]; rfl
      refine ⟨lp, _, key, rfl, SqL.of eL', fun x hx => ?_, fun ys q hperm _ nq => ?_⟩
      · obtain ⟨z, hz, rfl⟩ := List.mem_map.mp hx
        exact ⟨z.1, rfl, by rw [show key (vZ z) = z.2 from hkey z hz]; exact SL _ _ (az z hz)⟩
      generalize hM : upd HL q _ = HM
      obtain ⟨SM, eM⟩ := nw hM nq
      clear hM
      obtain ⟨us, rfl, hus⟩ := perm_map hperm
      have husm : ∀ p, p ∈ us.map (·.2) ↔ p ∈ fk := fun p => by rw [← ez]; exact (hus.map _).mem_iff
      refine k q us HM ((S45.trans SL).free nq) ((S45.trans SL).trans SM) eM (fun z hz => SM _ _ (SL _ _ (az z (hus.mem_iff.mp hz)))) ((hus.map _).nodup_iff.mpr (ez ▸ hnd)) fun p => ?_
      rw [husm]
      refine ⟨fun hp => hr p hp, fun hp => ?_⟩
      have all : ∀ p ∈ fk, ∀ j, j + n ≤ (imgL W p.1).length → (((imgL W p.1).drop j).take n, j % s) ∈ fk := fun p hp => (hcl p hp).elim (fun ⟨z, hz, _⟩ => nomatch hz) id
      induction hp with
      | start => exact h0
      | step _ hu ih =>
        obtain ⟨j, hj, rfl⟩ := rows_mem2.mp hu
        exact all _ ih j hj
    rw [show (!decide (zs.map dZ = [])) = true by
      rw [decide_eq_false fun h => hz0 (List.map_eq_nil_iff.mp h)]; rfl]
    refine iteT ?_
    have S45 := s4.trans S5
    replace el := S5 _ _ el
    replace ef := S5 _ _ ef
    replace hz := hz.same S5
    obtain ⟨zs0, z, rfl⟩ : ∃ zs0 z, zs = zs0 ++ [z] := by
      obtain ⟨l, b, e⟩ := (List.eq_nil_or_concat zs).resolve_left hz0
      exact ⟨l, b, by rw [e, List.concat_eq_append]⟩
    have hzm : z ∈ zs0 ++ [z] := List.mem_append_right _ (List.mem_singleton.mpr rfl)
    have zin := hin _ (hzf z hzm)
    have zat := hz z hzm
    obtain ⟨w0, hw0⟩ : ∃ w0, W[0]? = some w0 := ⟨_, List.getElem?_eq_getElem (by have := hW.1; omega)⟩
    have hw0s := (hW.2.2.2.2 w0 (List.mem_of_getElem? hw0)).1
    have hv0 : (W.map vW)[0]? = some (vW w0) := by rw [List.getElem?_map, hw0]; rfl
    refine ⟨_, rfl, _, rfl, .inl ⟨rfl, _, SqL.of el⟩, l3, _, vZ z, rfl, rfl, el, by rw [List.map_append, List.length_append, List.length_map]; show ((zs0.map vZ) ++ [vZ z])[zs0.length + 1 - 1]? = _; rw [Nat.add_sub_cancel, List.getElem?_append_right (by rw [List.length_map]; exact Nat.le_refl _), List.length_map, Nat.sub_self]; rfl, ?_⟩
    rw [show ((zs0 ++ [z]).map vZ).dropLast = zs0.map vZ by rw [List.map_append]; exact List.dropLast_concat]
    generalize hP : upd H5 l3 _ = H6
    obtain ⟨B6, f6⟩ := pt hP
    have S6 : Same H H6 := by rw [← hP]; exact S45.own nl3
    clear hP
    have ef6 := B6 _ _ nlf.symm ef
    have hz6 : AtZ H6 (zs0 ++ [z]) := fun q hq => B6 _ _ (ne_of (hz q hq) el fun e => by cases e) (hz q hq)
    have zat6 := hz6 z hzm
    have hsl : (imgL W z.2.1).length = n * s := by rw [(img_in hW zin.2).1, zin.1]
    have hns : n * s ≤ 200 * 4 := Nat.mul_le_mul hn hs4
    refine ⟨z.1, _, _, .str (S z.2.1), rfl, rfl, SqT.of zat6, atI_nat (j := 0) rfl, a, W, z.2.1, rfl, same_tup S6 ha, hW.2.1, fun w hw => by rw [(hW.2.2.2.2 w hw).1]; exact hs4, by omega, zin.2, fun H7 S7 => ?_⟩
    refine ⟨_, rfl, imgL W z.2.1, n, rfl, by omega, by omega, fun pa H8 npa S8 e8 => ?_⟩
    have S68 := S7.trans S8
    have Sp := S6.trans S68
    have lw : ((winL n (imgL W z.2.1)).map vW).length = n * s + 1 - n := by
      rw [List.length_map]
      unfold winL
      rw [List.length_map, List.length_range, hsl]
    have bnd : ∀ fk' : List WC, fk'.Nodup → (∀ p ∈ fk', RchP W s n st p) → fk'.length ≤ W.length ^ n * s := fun fk' h1 h2 => by
      have := nodup_len h1 (m := allP W.length n s) fun p hp => allP_mem (rchP_in hW st0 (h2 p hp)).1 (rchP_in hW st0 (h2 p hp)).2.1 (rchP_in hW st0 (h2 p hp)).2.2
      rwa [allP_len] at this
    refine ⟨pa, _, rfl, SqL.of e8, for_it (D := { nx := _, rt := Q, bk := fun _ _ => True, ct := fun _ _ => True }) (walk_enum (xs := (winL n (imgL W z.2.1)).map vW)) (fun j σ H' => ∃ (gk : List WC) (us : List (Addr × WC)) (y5 y6 y7 : Option V), us.length + 2 * (W.length ^ n * s - gk.length) ≤ zs0.length + 2 * (W.length ^ n * s - fk.length) ∧
        σ = [some (.ref a), some (.int (n : Int)), some (.ref l2), some (.ref fp), some (.ref l3), y5, y6, y7] ∧
        Same H H' ∧ H' pa = some (.lst ((winL n (imgL W z.2.1)).map vW)) ∧ H' fp = some (.dT (kvWC gk)) ∧ H' l3 = some (.lst (us.map vZ)) ∧ AtZ H' us ∧ gk.Nodup ∧ (∀ p ∈ gk, RchP W s n st p) ∧ (∀ p ∈ fk, p ∈ gk) ∧ (∀ q ∈ us, q.2 ∈ gk) ∧ (∀ q ∈ zs0, q ∈ us) ∧
        (∀ p ∈ gk, p ∈ fk ∨ ∃ q ∈ us, q.2 = p) ∧ ∀ k, k < j → (((imgL W z.2.1).drop k).take n, k % s) ∈ gk)
      ⟨fk, zs0, y5, y6, y7, Nat.le_refl _, rfl, Sp, e8, S68 _ _ ef6, S68 _ _ f6, fun q hq => S68 _ _ (hz6 q (List.mem_append_left _ hq)), hnd, hr, fun _ h => h, fun q hq => hzf q (List.mem_append_left _ hq), fun _ h => h, fun p hp => .inl hp, fun _ h => absurd h (Nat.not_lt_zero _)⟩ (fun j σ H' _ h => ?_) ?_ ?_⟩
    · obtain ⟨_, _, _, _, _, _, _, _, x, _⟩ := h
      exact SqL.of x
    · rintro j x σ H9 H10 hj ⟨gk, us, y5, y6, y7, hμ, rfl, s9, epa, eg, eu, hu, gnd, gr, gsub, ug, zu, gcl, gw⟩ ⟨T1, u, v, rfl, nT, rfl, hu1, hv⟩
      cases hu1
      rw [lw] at hj
      replace hv : ((winL n (imgL W z.2.1)).map vW)[j]? = some v := hv
      obtain ⟨part, hpart, rfl⟩ : ∃ part, part = ((imgL W z.2.1).drop j).take n ∧ v = vW part := by
        rw [List.getElem?_map] at hv
        obtain ⟨q, hq, e⟩ := Option.map_eq_some_iff.mp hv
        refine ⟨q, ?_, e.symm⟩
        unfold winL at hq
        rw [hsl, List.getElem?_map, List.getElem?_range hj] at hq
        exact (Option.some.inj hq).symm
      refine ⟨T1, _, rfl, .inl (.inl upd_same), rfl, _, _, rfl, _, _, rfl, rfl, ?_⟩
      generalize hG : upd H9 T1 _ = G9
      obtain ⟨S9, _⟩ := nw hG nT
      clear hG
      have Sg := s9.trans S9
      have hTg := same_tup Sg ha
      refine ⟨_, rfl, _, rfl, _, rfl, _, rfl, a, _, _, vW w0, rfl, rfl, hTg, atI_nat hv0, S w0, rfl, by rw [len_S]; omega, _, _, rfl, rfl, by rw [len_S, hw0s]; omega, by show 2 ≤ sizeLine; decide, ?_⟩
      walk_at "n10"
      have e10' : H10 l10 = some (.tup ((keyWC (part, j % s)).map kV)) := by
        rw [e10, len_S, hw0s]
        rfl
      have So := S9.trans S10
      have eg10 := So _ _ eg
      have eu10 := So _ _ eu
      have hpw : part ∈ winL n (imgL W z.2.1) := win_mem.mpr ⟨j, by rw [hsl]; omega, hpart⟩
      have hrp : RchP W s n st (part, j % s) := .step (hr _ (hzf z hzm)) (rows_mem2.mpr ⟨j, by rw [hsl]; omega, by rw [hpart]⟩)
      have hjs : j % s < s := Nat.mod_lt _ (by omega)
      refine ⟨_, rfl, _, rfl, fp, _, rfl, DGet.t eg10 e10', _, rfl, ?_⟩
      rw [valV_wcI]
      by_cases hin2 : (part, j % s) ∈ gk
      · rw [decide_eq_true hin2]
        refine iteF ⟨gk, us, _, _, _, hμ, rfl, s9.trans So, So _ _ epa, eg10, eu10, hu.same So, gnd, gr, gsub, ug, zu, gcl, fun k hk => ?_⟩
        rcases Nat.lt_or_ge k j with h | h
        · exact gw k h
        · rw [show k = j by omega, ← hpart]; exact hin2
      · rw [decide_eq_false hin2]
        have hgl : gk.length < W.length ^ n * s := by
          have := bnd (gk ++ [(part, j % s)]) (List.nodup_append.mpr ⟨gnd, List.nodup_cons.mpr ⟨fun h => (nomatch h), List.nodup_nil⟩, fun x hx y hy => by rw [List.mem_singleton.mp hy]; exact fun e => hin2 (e ▸ hx)⟩) fun p hp => (List.mem_append.mp hp).elim (gr p) fun h => by rw [List.mem_singleton.mp h]; exact hrp
          rw [List.length_append] at this
          exact this
        refine iteT ⟨_, rfl, _, rfl, fp, _, rfl, DPut.t eg10 e10' (by unfold kvWC; rw [List.length_map]; omega), ?_⟩
        rw [put_wc hin2]
        generalize hD : upd H10 fp _ = H11
        obtain ⟨B11, f11⟩ := pt hD
        have S11 : Same H H11 := by rw [← hD]; exact (s9.trans So).own nfH
        clear hD
        have eu11 := B11 _ _ nlf eu10
        have hul : us.length ≤ 65536 * 8 := by
          rw [List.length_append, List.length_singleton] at hm
          omega
        refine ⟨_, rfl, .inl ⟨rfl, _, SqL.of eu11⟩, _, rfl, l3, _, _, rfl, rfl, eu11, by rw [List.length_map]; omega, ?_⟩
        generalize hE : upd H11 l3 _ = H12
        obtain ⟨B12, f12⟩ := pt hE
        have S12 : Same H H12 := by rw [← hE]; exact S11.own nl3
        clear hE
        have npf : pa ≠ fp := ne_of epa eg fun e => by cases e
        have epa12 : H12 pa = _ := B12 _ _ (ne_of_none (S7 _ _ f6) npa).symm (B11 _ _ npf (So _ _ epa))
        refine ⟨gk ++ [(part, j % s)], us ++ [(l10, (part, j % s))], _, _, _, ?_, rfl, S12, epa12, B12 _ _ nlf.symm f11, ?_, ?_, ?_, ?_, ?_, ?_, ?_, ?_, ?_⟩
        · rw [List.length_append, List.length_append, List.length_singleton, List.length_singleton]; omega
        · rw [f12, List.map_append]; rfl
        · intro q hq
          have hqa : H10 q.1 = some (.tup [.str (S q.2.1), .int (q.2.2 : Int)]) := by
            rcases List.mem_append.mp hq with h | h
            · exact So _ _ (hu q h)
            · rw [List.mem_singleton.mp h, e10']; rfl
          exact B12 _ _ (ne_of hqa eu10 fun e => by cases e) (B11 _ _ (ne_of hqa eg10 fun e => by cases e) hqa)
        · exact List.nodup_append.mpr ⟨gnd, List.nodup_cons.mpr ⟨fun h => (nomatch h), List.nodup_nil⟩, fun x hx y hy => by rw [List.mem_singleton.mp hy]; exact fun e => hin2 (e ▸ hx)⟩
        · exact fun p hp => (List.mem_append.mp hp).elim (gr p) fun h => by rw [List.mem_singleton.mp h]; exact hrp
        · exact fun p hp => List.mem_append_left _ (gsub p hp)
        · exact fun q hq => (List.mem_append.mp hq).elim (fun h => List.mem_append_left _ (ug q h)) fun h => by rw [List.mem_singleton.mp h]; exact List.mem_append_right _ (List.mem_singleton.mpr rfl)
        · exact fun q hq => List.mem_append_left _ (zu q hq)
        · intro p hp
          rcases List.mem_append.mp hp with h | h
          · exact (gcl p h).imp id fun ⟨q, hq, e⟩ => ⟨q, List.mem_append_left _ hq, e⟩
          · exact .inr ⟨_, List.mem_append_right _ (List.mem_singleton.mpr rfl), (List.mem_singleton.mp h).symm⟩
        · intro k hk
          rcases Nat.lt_or_ge k j with h | h
          · exact List.mem_append_left _ (gw k h)
          · rw [show k = j by omega, ← hpart]; exact List.mem_append_right _ (List.mem_singleton.mpr rfl)
    · rintro σ H9 ⟨gk, us, y5, y6, y7, hμ, rfl, s9, epa, eg, eu, hu, gnd, gr, gsub, ug, zu, gcl, gw⟩
      have := bnd gk gnd gr
      have := bnd fk hnd hr
      rw [List.length_append, List.length_singleton] at hm
      rw [lw] at gw
      refine ⟨_, ?_, gk, us, y5, y6, y7, rfl, ?_, rfl, s9, eg, eu, hu, gnd, gr, gsub _ h0, ug, fun p hp => ?_⟩
      · omega
      · omega
      · rcases gcl p hp with h | h
        · rcases hcl p h with ⟨q, hq, e⟩ | h2
          · rcases List.mem_append.mp hq with h3 | h3
            · exact .inl ⟨q, zu q h3, e⟩
            · rw [List.mem_singleton.mp h3] at e
              subst e
              exact .inr fun k hk => gw k (by rw [hsl] at hk; omega)
          · exact .inr fun k hk => gsub _ (h2 k hk)
        · exact .inl h

/-! ### _law_led -/
def sp_law_led (K : PySem.W.Frag) : Sp := fun vs H Q _ => ∃ (a : Addr) (W : List (List Nat)) (s n : Nat) (w : List Nat), vs = [.ref a, .str (S w), .int (n : Int)] ∧ SqT K H a (W.map vW) ∧ RuleW W s ∧ n ≤ 5000 ∧ w.length ≤ 1000 ∧ (∀ c ∈ w, 97 ≤ c ∧ c < 97 + W.length) ∧
  ∀ (b : Addr) (zs : List (Addr × WC)) H', H b = none → Same H H' → H' b = some (.lst (zs.map vZ)) → AtZ H' zs → zs.map (·.2) = rowsW n s (imgL W w) → Q (.ref b) H'
theorem ok_law_led (T : Txt K mg A) : FnOk P w K mg base CX0 2 A.f_law_led A.d_law_led ["rule", "word", "length"] (sp_law_led K) := by
  refine T.F_law_led.ok sc_law_led (fun vs H Q E h => ?_) (fun cdv A' outer s0 H vs Q E hr h => ?_)
  · obtain ⟨a, W, s, n, w, rfl, _⟩ := h
    rfl
  · obtain ⟨a, W, s, n, w, rfl, ha, hW, hn, hwl, hwc, k⟩ := h
    refine ⟨_, (pss_cons (ps_set (i := 3) sc_law_led.nd rfl (by first | exact Or.inl rfl | exact Or.inr rfl) (pe_call (ok_law_parts T) hr (by rfl) T.g_law_parts T.F_law_parts.kp T.b_law_parts .nil pass0 (pa_cons (pe_call (ok_law_image T) hr (by rfl) T.g_law_image T.F_law_image.kp T.b_law_image .nil pass0 (pa_cons (pv 0) (pa_cons (pv 1) pa_nil))) (pa_cons (pv 2) pa_nil))))
  (pss_one (ps_ret (pe_lc (own := [("at", 4), ("part", 5)]) (g := gTup K 2 (gCons (gName 4) (gCons (gName 5) gNil))) (tt := tYes) (by rfl) sc_law_led.nd (pi_enum (by rfl) T.enumerate (pa_cons (pv 3) pa_nil)) (blkOk_by (own := [("at", 4), ("part", 5)]) (N := ["rule", "word", "length", "parts", "at", "part"]) (sc := defScope s_law_led) (by decide +kernel)) (fun _ _ _ _ _ => (pg_tup (by rfl) (pgs_cons (pg_name (i := 4) sc_law_led.nd rfl (by first | exact Or.inl rfl | exact Or.inr rfl)) (pgs_cons (pg_name (i := 5) sc_law_led.nd rfl (by first | exact Or.inl rfl | exact Or.inr rfl)) pgs_nil)))) (fun _ _ _ _ _ => pts_nil) (fun _ _ _ _ _ => (pe_tup (pa_cons (pv 5) (pa_cons (pe_op op_mod (pe_callTy call_intI (by rfl) T.int (by decide +kernel) (pa_cons (pv 4) pa_nil)) (pe_callB call_len_str (by rfl) T.len PySem.boot_len (pa_cons (pe_ix (ix_tupK (K := K)) (pv 0) pe_int (fun _ _ => rfl)) pa_nil))) pa_nil)))))))), ?_⟩
    have hsz : sizeLine = 16777216 := sizeLine_eq
    have hs2 := hW.2.2.1
    have hs4 := hW.2.2.2.1
    have hw4 := hW.2.1
    have il := (img_in hW hwc).1
    have ns : w.length * s ≤ 1000 * 4 := Nat.mul_le_mul hwl hs4
    obtain ⟨w0, hw0⟩ : ∃ w0, W[0]? = some w0 := ⟨_, List.getElem?_eq_getElem (by have := hW.1; omega)⟩
    have hw0s := (hW.2.2.2.2 w0 (List.mem_of_getElem? hw0)).1
    have hv0 : (W.map vW)[0]? = some (vW w0) := by rw [List.getElem?_map, hw0]; rfl
    refine ⟨_, rfl, _, rfl, a, W, w, rfl, ha, hw4, fun v hv => by rw [(hW.2.2.2.2 v hv).1]; exact hs4, hwl, hwc, fun H1 S1 => ?_⟩
    refine ⟨_, rfl, imgL W w, n, rfl, by omega, hn, fun pa H2 npa S2 e2 => ?_⟩
    have S02 := S1.trans S2
    refine ⟨_, rfl, pa, _, rfl, SqL.of e2, fun D hD => ?_⟩
    have rl : (rowsW n s (imgL W w)).length = ((winL n (imgL W w)).map vW).length := by rw [rows_len, List.length_map, win_many]
    refine lc_it (walk_enum (xs := (winL n (imgL W w)).map vW)) (fun i H' => Same H2 H' ∧ ∃ us : List (Addr × WC), H' D = some (.lst (us.map vZ)) ∧ AtZ H' us ∧ us.map (·.2) = (rowsW n s (imgL W w)).take i)
      ⟨Same.new hD, [], upd_same, fun _ h => (nomatch h), rfl⟩ (fun i H' _ h => SqL.of (h.1 _ _ e2)) ?_ ?_
    · rintro i x H3 H4 hi ⟨s3, us, e3, au, eu⟩ ⟨T1, u, v, rfl, nT, rfl, hu1, hv⟩
      cases hu1
      replace hv : ((winL n (imgL W w)).map vW)[i]? = some v := hv
      rw [← rl, rows_len] at hi
      rw [List.getElem?_map, win_at hi] at hv
      obtain rfl := (Option.some.inj hv).symm
      refine ⟨T1, _, rfl, .inl (.inl upd_same), rfl, _, _, rfl, _, _, rfl, rfl, rfl, ?_⟩
      generalize hG : upd H3 T1 _ = G9
      obtain ⟨S9, _⟩ := nw hG nT
      clear hG
      have Sg := s3.trans S9
      refine yesT ⟨_, rfl, _, rfl, _, rfl, _, rfl, a, _, _, vW w0, rfl, rfl, same_tup (S02.trans Sg) ha, atI_nat hv0, S w0, rfl, by rw [len_S]; omega, _, _, rfl, rfl, by rw [len_S, hw0s]; omega, by show 2 ≤ sizeLine; decide, ?_⟩
      walk_at "n10"
      have hri := rows_at (s := s) hi
      have e10' : H10 l10 = some (.tup [.str (S (((imgL W w).drop i).take n)), .int ((i % s : Nat) : Int)]) := by
        rw [e10, len_S, hw0s]
        rfl
      have e39 := S10 _ _ (S9 _ _ e3)
      have ul : us.length ≤ 5000 := by
        have h1 : us.length = ((rowsW n s (imgL W w)).take i).length := by rw [← eu, List.length_map]
        rw [List.length_take, rows_len] at h1
        omega
      refine ⟨_, e39, by rw [List.length_map]; omega, (Sg.trans S10).own hD, us ++ [(l10, (((imgL W w).drop i).take n, i % s))], ?_, fun q hq => ?_, ?_⟩
      · rw [upd_same]
        show some (HO.lst (us.map vZ ++ [(l10, (((imgL W w).drop i).take n, i % s))].map vZ)) = _
        rw [← List.map_append]
      · have hq9 : H10 q.1 = some (.tup [.str (S q.2.1), .int (q.2.2 : Int)]) := by
          rcases List.mem_append.mp hq with h | h
          · exact S10 _ _ (S9 _ _ (au q h))
          · rw [List.mem_singleton.mp h]; exact e10'
        rw [upd_ne (ne_of hq9 e39 fun e => by cases e)]
        exact hq9
      · rw [List.map_append, eu, take_snoc hri]
        rfl
    · rintro H3 ⟨s3, us, e3, au, eu⟩
      rw [← rl, List.take_length] at eu
      exact k D us H3 (S02.free hD) (S02.trans s3) e3 au eu

/-! ### _law_is_closed_list -/
def sp_law_is_closed_list (K : PySem.W.Frag) : Sp := fun vs H Q _ => ∃ (a : Addr) (W : List (List Nat)) (s n : Nat) (x : V) (d : PyData), vs = [.ref a, .int (n : Int), x] ∧ SqT K H a (W.map vW) ∧ RuleW W s ∧ 1 ≤ n ∧ n ≤ 16 ∧ Dp K H x d ∧
  (∀ ds, d = .list ds → ds.length ≤ 20000 ∧ ∀ f ∈ ds, RowFine 20000 f) ∧ ∀ H', Same H H' → Q (.bl (clD W s n (stL W s n) d)) H'
set_option maxHeartbeats 4000000 in
theorem ok_law_is_closed_list (T : Txt K mg A) : FnOk P w K mg base CX0 3 A.f_law_is_closed_list A.d_law_is_closed_list ["rule", "length", "value"] (sp_law_is_closed_list K) := by
  refine T.F_law_is_closed_list.ok sc_law_is_closed_list (fun vs H Q E h => ?_) (fun cdv A' outer s0 H vs Q E hr h => ?_)
  · obtain ⟨a, W, s, n, x, d, rfl, _⟩ := h
    rfl
  · obtain ⟨a, W, s, n, x, d, rfl, ha, hW, hn1, hn, hd, hit, k⟩ := h
    refine ⟨_, (pss_cons (ps_if (pt_not (pt_val (pe_callB call_isi (by rfl) T.isinstance PyProof.Rows.boot_isinstance (pa_cons (pv 2) (pa_cons (pe_bltn (v := .ty "list") (by rfl) T.list (by decide +kernel) rfl) pa_nil))))) (pss_one (ps_ret pe_bl)) pss_nil)
  (pss_cons (ps_for PassesOwn.never rfl (pi_list (pv 2)) (pg_name (i := 3) sc_law_is_closed_list.nd rfl (by first | exact Or.inl rfl | exact Or.inr rfl)) (pss_cons (ps_if (PW.pt (pw_or (pt_not (pt_val (pe_callB call_isi (by rfl) T.isinstance PyProof.Rows.boot_isinstance (pa_cons (pv 3) (pa_cons (pe_bltn (v := .ty "tuple") (by rfl) T.tuple (by decide +kernel) rfl) pa_nil))))) (pw_or (pt_cmpR op_ne (pe_callB (call_lenK (K := K)) (by rfl) T.len PySem.boot_len (pa_cons (pv 3) pa_nil)) pe_int (nomark _)) (pw_or (pt_not (pt_val (pe_callB call_isi (by rfl) T.isinstance PyProof.Rows.boot_isinstance (pa_cons (pe_ix (ix_tupK (K := K)) (pv 3) pe_int (fun _ _ => rfl)) (pa_cons (pe_bltn (v := .ty "str") (by rfl) T.str (by decide +kernel) rfl) pa_nil))))) (pw_or1 (pt_cmpR op_ne (pe_callB call_len_str (by rfl) T.len PySem.boot_len (pa_cons (pe_ix (ix_tupK (K := K)) (pv 3) pe_int (fun _ _ => rfl)) pa_nil)) (pv 1) (nomark _))))))) (pss_one (ps_ret pe_bl)) pss_nil)
  (pss_cons (ps_if (pt_cmpR (op_neD hr.units) (pe_lc (own := [("letter", 6)]) (g := gName 6) (by rfl) sc_law_is_closed_list.nd (pi_str (pe_ix (ix_tupK (K := K)) (pv 3) pe_int (fun _ _ => rfl))) (blkOk_by (own := [("letter", 6)]) (N := ["rule", "length", "value", "pair", "word", "cut", "letter", "led"]) (sc := defScope s_law_is_closed_list) (by decide +kernel)) (fun _ _ _ _ _ => (pg_name (i := 6) sc_law_is_closed_list.nd rfl (by first | exact Or.inl rfl | exact Or.inr rfl))) (fun _ _ _ _ _ => (pts_one (pt_cmpR (op_notInK (K := K)) (pv 6) (pe_slice (sl_listK (K := K)) (pe_callTy (cr_listS rfl) (by rfl) T.list (by decide +kernel) (pa_cons pe_str pa_nil)) po_none (po_some (pe_callB (call_lenK (K := K)) (by rfl) T.len PySem.boot_len (pa_cons (pv 0) pa_nil)))) rfl))) (fun _ _ _ _ _ => (pv 6))) (pe_lst pa_nil) (nomark _)) (pss_one (ps_ret pe_bl)) pss_nil)
  (pss_one (ps_if (PW.pt (pw_or (pt_val (pe_callB call_isi (by rfl) T.isinstance PyProof.Rows.boot_isinstance (pa_cons (pe_ix (ix_tupK (K := K)) (pv 3) pe_int (fun _ _ => rfl)) (pa_cons (pe_bltn (v := .ty "bool") (by rfl) T.bool (by decide +kernel) rfl) pa_nil)))) (pw_or (pt_not (pt_val (pe_callB call_isi (by rfl) T.isinstance PyProof.Rows.boot_isinstance (pa_cons (pe_ix (ix_tupK (K := K)) (pv 3) pe_int (fun _ _ => rfl)) (pa_cons (pe_bltn (v := .ty "int") (by rfl) T.int (by decide +kernel) rfl) pa_nil))))) (pw_or1 (pt_not (pt_chain op_le op_lt pe_int (pe_ix (ix_tupK (K := K)) (pv 3) pe_int (fun _ _ => rfl)) (pe_callB call_len_str (by rfl) T.len PySem.boot_len (pa_cons (pe_ix (ix_tupK (K := K)) (pv 0) pe_int (fun _ _ => rfl)) pa_nil)))))))) (pss_one (ps_ret pe_bl)) pss_nil)))))
  (pss_cons (ps_for PassesOwn.never rfl (pi_list (pv 2)) (pg_tup (by rfl) (pgs_cons (pg_name (i := 4) sc_law_is_closed_list.nd rfl (by first | exact Or.inl rfl | exact Or.inr rfl)) (pgs_cons (pg_name (i := 5) sc_law_is_closed_list.nd rfl (by first | exact Or.inl rfl | exact Or.inr rfl)) pgs_nil))) (pss_one (ps_if (pt_cmpR (op_neD hr.units) (pe_lc (own := [("led", 7)]) (g := gName 7) (by rfl) sc_law_is_closed_list.nd (pi_list (pe_call (ok_law_led T) hr (by rfl) T.g_law_led T.F_law_led.kp T.b_law_led .nil pass0 (pa_cons (pv 0) (pa_cons (pv 4) (pa_cons (pv 1) pa_nil))))) (blkOk_by (own := [("led", 7)]) (N := ["rule", "length", "value", "pair", "word", "cut", "letter", "led"]) (sc := defScope s_law_is_closed_list) (by decide +kernel)) (fun _ _ _ _ _ => (pg_name (i := 7) sc_law_is_closed_list.nd rfl (by first | exact Or.inl rfl | exact Or.inr rfl))) (fun _ _ _ _ _ => (pts_one (pt_cmpR (op_notInDK (K := K) (Nat.lt_of_succ_lt (un66 hr))) (pv 7) (pv 2) rfl))) (fun _ _ _ _ _ => (pv 7))) (pe_lst pa_nil) (nomark _)) (pss_one (ps_ret pe_bl)) pss_nil)))
  (pss_one (ps_ret (pe_cmpR (op_inD (Nat.lt_of_succ_lt (un66 hr))) (pe_tup (pa_cons (pe_call (ok_law_start T) hr (by rfl) T.g_law_start T.F_law_start.kp T.b_law_start .nil pass0 (pa_cons (pv 0) (pa_cons (pv 1) pa_nil))) (pa_cons pe_int pa_nil))) (pv 2) rfl)))))), ?_⟩
    have hsz : sizeLine = 16777216 := sizeLine_eq
    have hs2 := hW.2.2.1
    have hs4 := hW.2.2.2.1
    have hw4 := hW.2.1
    obtain ⟨w0, hw0⟩ : ∃ w0, W[0]? = some w0 := ⟨_, List.getElem?_eq_getElem (by have := hW.1; omega)⟩
    have hw0s := (hW.2.2.2.2 w0 (List.mem_of_getElem? hw0)).1
    have hv0 : (W.map vW)[0]? = some (vW w0) := by rw [List.getElem?_map, hw0]; rfl
    refine ⟨_, rfl, _, _, _, _, _, rfl, .ty _, dp_ty hd, kit_list d, _, rfl, ?_⟩
    cases hd with
    | non => exact iteT (k H (Same.refl H))
    | bl b => exact iteT (k H (Same.refl H))
    | int i => exact iteT (k H (Same.refl H))
    | str z => exact iteT (k H (Same.refl H))
    | tup h1 h2 => exact iteT (k H (Same.refl H))
    | @lst b ys ds h1 h2 =>
      replace k : ∀ H', Same H H' → Q (.bl (clGo W s n (stL W s n) ds)) H' := k
      obtain ⟨hl2, hit⟩ := hit ds rfl
      have hlen := dpAll_len h2
      refine iteF ⟨_, rfl, b, rfl, ⟨_, h1⟩, for_it (walk_list (xs := ys)) (fun i σ H' => ∃ (y3 : Option V) (qs : List WC), σ = [some (.ref a), some (.int (n : Int)), some (.ref b), y3, none, none, none, none] ∧ Same H H' ∧ ds.take i = qs.map dP ∧ ∀ r ∈ qs, PIn W s n r)
        ⟨none, [], rfl, Same.refl H, rfl, fun _ h => (nomatch h)⟩ (fun i σ H' _ h => ?_) ?_ ?_⟩
      · obtain ⟨_, _, _, s', _⟩ := h
        exact same_lst s' h1
      · rintro i x σ H2 H3 hi ⟨y3, qs, rfl, s2, etk, hin⟩ ⟨rfl, hx⟩
        obtain ⟨f, hf, hfd⟩ := dpAll_at h2 hx
        have hfd := dp_same s2 _ _ hfd
        have hmem := List.mem_of_getElem? hf
        have hfine := hit f hmem
        have no : ∀ H4, Same H3 H4 → (∀ p, f = dP p → ¬ PIn W s n p) → Q (.bl false) H4 := fun H4 s4 h => cl_row hmem (rowB_no fun p e => h p (pairOf_some e)) ▸ k H4 (s2.trans s4)
        refine ⟨_, rfl, _, _, _, _, _, rfl, .ty _, dp_ty hfd, kit_tup f, _, rfl, ?_⟩
        cases hfd with
        | non => exact iteT (no H3 (Same.refl _) fun p e _ => nomatch e)
        | bl b => exact iteT (no H3 (Same.refl _) fun p e _ => nomatch e)
        | int i => exact iteT (no H3 (Same.refl _) fun p e _ => nomatch e)
        | str z => exact iteT (no H3 (Same.refl _) fun p e _ => nomatch e)
        | lst h1 h2 => exact iteT (no H3 (Same.refl _) fun p e _ => nomatch e)
        | @tup t zs gs g1 g2 =>
          have glen := dpAll_len g2
          have hfine := hfine gs rfl
          refine iteF ⟨_, rfl, t, _, rfl, .inr g1, rfl, _, rfl, ?_⟩
          by_cases hl2 : gs.length = 2
          · rw [show (!decide (V.int (zs.length : Int) = V.int 2)) = false by rw [glen, hl2]; rfl]
            obtain ⟨d1, d2, rfl⟩ : ∃ d1 d2, gs = [d1, d2] := by
              match gs, hl2 with
              | [d1, d2], _ => exact ⟨d1, d2, rfl⟩
            cases g2 with
            | @cons x1 _ r1 _ hx1 g3 =>
            cases g3 with
            | @cons x2 _ r2 _ hx2 g4 =>
            cases g4
            have f1 := hfine d1 (by simp)
            refine iteF ⟨_, rfl, t, _, _, x1, rfl, rfl, g1, atI_nat (j := 0) rfl, _, _, _, _, _, rfl, .ty _, dp_ty hx1, kit_str d1, _, rfl, ?_⟩
            cases q1 : dStr d1 with
            | false =>
              refine iteT (no H3 (Same.refl _) fun p e _ => ?_)
              have e3 := PyData.tuple.inj e
              rw [(List.cons.inj e3).1] at q1
              cases q1
            | true =>
              obtain ⟨m, rfl⟩ : ∃ m, d1 = .str (S m) := by
                cases d1 with
                | str z => exact ⟨z.cps.toList, rfl⟩
                | _ => cases q1
              cases hx1
              have hl : m.length ≤ 20000 := f1.1
              have hcc : ∀ c ∈ m, c < 0x110000 := f1.2
              have nom : ∀ H4, Same H3 H4 → ¬ (m.length = n ∧ ∀ c ∈ m, 97 ≤ c ∧ c < 97 + W.length) → Q (.bl false) H4 := fun H4 s4 h => no H4 s4 fun p e hp => h (by
                have e3 := PyData.tuple.inj e
                have e4 := SX.S_inj (PyData.str.inj (List.cons.inj e3).1)
                rw [e4]
                exact ⟨hp.1, hp.2.1⟩)
              refine iteF ⟨_, rfl, t, _, _, V.str (S m), rfl, rfl, g1, atI_nat (j := 0) rfl, S m, rfl, by rw [len_S]; omega, _, rfl, rfl, _, rfl, ?_⟩
              rw [len_S]
              by_cases hmn : m.length = n
              · rw [show (!decide (V.int (m.length : Int) = V.int (n : Int))) = false by rw [hmn]; simp]
                refine iteF ?_
                refine ⟨_, rfl, t, _, _, V.str (S m), rfl, rfl, g1, atI_nat (j := 0) rfl, S m, rfl, fun D hD => ?_⟩
                refine lc_filt m (fun c => decide (c ∉ ([97, 98, 99, 100] : List Nat).take W.length)) (fun c => .str (S [c])) walk_S hD (by omega) (fun _ _ => trivial) ?_ ?_
                · rintro i c x H4 H5 R N hc s4 ⟨rfl, c', hc', rfl⟩ hR hN
                  obtain rfl : c = c' := Option.some.inj (hc.symm.trans hc')
                  refine ⟨rfl, _, rfl, [97, 98, 99, 100], congrArg (fun z => [V.str z]) (by decide +kernel), by decide, ?_⟩
                  walk_at "n6"
                  dsimp only [tNoPart]
                  refine ⟨_, rfl, a, _, rfl, .inr (same_tup ((s2.trans s4).trans S6) ha), _, rfl, l6, _, rfl, SqL.of e6, ?_⟩
                  walk_at "n7"
                  rw [cutV_L, List.length_map, cutL_map, cutL_pre] at e7
                  refine ⟨l7, _, rfl, .inl (SqL.of e7), rfl, flat_letters _, _, rfl, ?_⟩
                  have eI : (if true = true then !inV (V.str (S [c])) ((([97, 98, 99, 100] : List Nat).take W.length).map fun c => V.str (S [c])) else inV (V.str (S [c])) ((([97, 98, 99, 100] : List Nat).take W.length).map fun c => V.str (S [c]))) = decide (c ∉ ([97, 98, 99, 100] : List Nat).take W.length) := by
                    rw [if_pos rfl, in_letters, decide_not]
                  rw [eI]
                  cases hq : decide (c ∉ ([97, 98, 99, 100] : List Nat).take W.length) with
                  | true => exact iteT ⟨_, rfl, hR hq H7 (S6.trans S7)⟩
                  | false => exact iteF (hN hq H7 (S6.trans S7))
                intro H4 s4 g4
                have g4' : H4 D = some (.lst ((m.filter fun c => decide (c ∉ ([97, 98, 99, 100] : List Nat).take W.length)).map fun c => V.str (S [c]))) := g4
                refine ⟨by show 0 ≤ sizeLine; decide, ?_⟩
                walk_at "n6"
                have S46 := s4.trans S6
                refine ⟨.list (sgD _), .list (sgD []), .lst (SqL.of (S6 _ _ g4')) (sg_all _ _), .lst (SqL.of e6) (sg_all _ []), sgD_shaped _ fun c hc => hcc c (List.mem_filter.mp hc).1, sgD_shaped [] (fun _ h => nomatch h), _, rfl, ?_⟩
                rw [sgD_eqv]
                by_cases q3 : (m.filter fun c => decide (c ∉ ([97, 98, 99, 100] : List Nat).take W.length)) = []
                · rw [decide_eq_true q3]
                  have q4 : ∀ c ∈ m, 97 ≤ c ∧ c < 97 + W.length := fun c hc => (first_four hw4 c).mp (Classical.byContradiction fun z => by
                    have : c ∈ m.filter fun c => decide (c ∉ ([97, 98, 99, 100] : List Nat).take W.length) := List.mem_filter.mpr ⟨hc, decide_eq_true z⟩
                    rw [q3] at this
                    cases this)
                  have g16 := same_tup S46 g1
                  have hx26 := dp_same S46 _ _ hx2
                  refine iteF ⟨_, rfl, t, _, _, x2, rfl, rfl, g16, atI_nat (j := 1) rfl, _, _, _, _, _, rfl, .ty _, dp_ty hx26, kit_bool d2, _, rfl, ?_⟩
                  have noc : (∀ c : Nat, d2 = .int (c : Int) → ¬ c < s) → Q (.bl false) H6 := fun h => no H6 S46 fun p e hp => by
                    have e3 := PyData.tuple.inj e
                    exact h p.2 (List.cons.inj (List.cons.inj e3).2).1 hp.2.2
                  cases hx26 with
                  | bl b => exact iteT (noc fun c e _ => nomatch e)
                  | non => exact iteF ⟨_, rfl, t, _, _, _, rfl, rfl, g16, atI_nat (j := 1) rfl, _, _, _, _, _, rfl, .ty _, dp_ty .non, kit_int _, _, rfl, iteT (noc fun c e _ => nomatch e)⟩
                  | str z => exact iteF ⟨_, rfl, t, _, _, _, rfl, rfl, g16, atI_nat (j := 1) rfl, _, _, _, _, _, rfl, .ty _, dp_ty (.str z), kit_int _, _, rfl, iteT (noc fun c e _ => nomatch e)⟩
                  | lst h3 h4 => exact iteF ⟨_, rfl, t, _, _, _, rfl, rfl, g16, atI_nat (j := 1) rfl, _, _, _, _, _, rfl, .ty _, dp_ty (.lst h3 h4), kit_int _, _, rfl, iteT (noc fun c e _ => nomatch e)⟩
                  | tup h3 h4 => exact iteF ⟨_, rfl, t, _, _, _, rfl, rfl, g16, atI_nat (j := 1) rfl, _, _, _, _, _, rfl, .ty _, dp_ty (.tup h3 h4), kit_int _, _, rfl, iteT (noc fun c e _ => nomatch e)⟩
                  | int i2 =>
                    refine iteF ⟨_, rfl, t, _, _, _, rfl, rfl, g16, atI_nat (j := 1) rfl, _, _, _, _, _, rfl, .ty _, dp_ty (K := K) (H := H6) (.int i2), kit_int _, _, rfl, ?_⟩
                    refine iteF ?_
                    refine ⟨_, rfl, t, _, _, _, rfl, rfl, g16, atI_nat (j := 1) rfl, _, _, rfl, rfl, _, rfl, ?_⟩
                    by_cases h0 : 0 ≤ i2
                    · obtain ⟨c, rfl⟩ : ∃ c : Nat, i2 = (c : Int) := ⟨i2.toNat, by omega⟩
                      rw [decide_eq_true h0]
                      refine iteT ⟨_, rfl, a, _, _, vW w0, rfl, rfl, same_tup (s2.trans S46) ha, atI_nat hv0, S w0, rfl, by rw [len_S]; omega, _, _, rfl, rfl, _, rfl, ?_⟩
                      rw [len_S, hw0s]
                      by_cases hcs : c < s
                      · rw [decide_eq_true (by omega)]
                        refine iteF ⟨_, qs ++ [(m, c)], rfl, s2.trans S46, ?_, fun r hr => ?_⟩
                        · rw [take_snoc hf, etk, List.map_append]
                          rfl
                        · rcases List.mem_append.mp hr with h | h
                          · exact hin r h
                          · rw [List.mem_singleton.mp h]; exact ⟨hmn, q4, hcs⟩
                      · rw [decide_eq_false (by omega)]
                        exact iteT (noc fun c2 e z => hcs (by have := PyData.int.inj e; omega))
                    · rw [decide_eq_false h0]
                      exact iteF ⟨_, rfl, iteT (noc fun c2 e _ => h0 (by have := PyData.int.inj e; omega))⟩
                · rw [decide_eq_false q3]
                  exact iteT (nom H6 S46 fun z => q3 (List.filter_eq_nil_iff.mpr fun c hc h => of_decide_eq_true h ((first_four hw4 c).mpr (z.2 c hc))))
              · rw [show (!decide (V.int (m.length : Int) = V.int (n : Int))) = true by
                  rw [decide_eq_false fun z => hmn (by have := V.int.inj z; omega)]; rfl]
                exact iteT (nom H3 (Same.refl _) fun z => hmn z.1)
          · rw [show (!decide (V.int (zs.length : Int) = V.int 2)) = true by
              rw [decide_eq_false fun z => hl2 (by have := V.int.inj z; omega)]; rfl]
            refine iteT (no H3 (Same.refl _) fun p e _ => ?_)
            have e3 := PyData.tuple.inj e
            rw [e3] at hl2
            exact absurd rfl hl2
      · rintro σ H2 ⟨y3, qs, rfl, s2, etk, hin⟩
        rw [hlen, List.take_length] at etk
        subst etk
        have kt : ClP W s n (stL W s n) qs → ∀ H', Same H2 H' → Q (.bl true) H' := fun hc H' s' => cl_dP (b := true) ⟨fun _ => hc, fun _ => rfl⟩ ▸ k H' (s2.trans s')
        have kf : ¬ ClP W s n (stL W s n) qs → ∀ H', Same H2 H' → Q (.bl false) H' := fun hc H' s' => cl_dP (b := false) ⟨fun h => (nomatch h), fun h => absurd h hc⟩ ▸ k H' (s2.trans s')
        have h22 := dpAll_same s2 _ _ h2
        have hb2 := same_lst s2 h1
        have ha2 := same_tup s2 ha
        have hql : qs.length ≤ 20000 := by rw [List.length_map] at hl2; exact hl2
        clear k hit h2 h1 hlen
        have hsq : SeqAt.shaped (.list (qs.map dP)) = true := by
          have e : qs.map dP = (qs.map fun q => ((0 : Addr), q)).map dZ := by rw [List.map_map]; rfl
          rw [e]
          exact shapedZ fun z hz => by
            obtain ⟨q, hq, rfl⟩ := List.mem_map.mp hz
            exact codeP hw4 (hin q hq)
        have hinq : ∀ p : WC, ((qs.map dP).any fun z => PyData.eqv z (dP p)) = decide (p ∈ qs) := fun p => by
          have h := in_dP p (qs.map fun q => ((0 : Addr), q))
          rw [List.map_map, List.map_map] at h
          rw [show qs.map ((fun x : Addr × WC => x.2) ∘ fun q => ((0 : Addr), q)) = qs from List.map_id' qs] at h
          exact h
        have hyl := dpAll_len h22
        refine ⟨_, rfl, b, rfl, ⟨_, hb2⟩, for_it (D := { nx := _, rt := Q, bk := fun _ _ => True, ct := fun _ _ => True }) (walk_list (xs := ys)) (fun i σ H' => ∃ (y3 y4 y5 : Option V), σ = [some (.ref a), some (.int (n : Int)), some (.ref b), y3, y4, y5, none, none] ∧ Same H2 H' ∧ ∀ p ∈ qs.take i, ∀ q ∈ rowsW n s (imgL W p.1), q ∈ qs)
          ⟨_, _, _, rfl, Same.refl _, fun _ h => (nomatch h)⟩ (fun i σ H' _ h => ?_) ?_ ?_⟩
        · obtain ⟨_, _, _, _, s', _⟩ := h
          exact same_lst s' hb2
        · rintro i x σ H3 H4 hi ⟨y3, y4, y5, rfl, s3, hall⟩ ⟨rfl, hx⟩
          obtain ⟨f, hf, hfd⟩ := dpAll_at h22 hx
          rw [List.getElem?_map] at hf
          obtain ⟨p, hp, rfl⟩ := Option.map_eq_some_iff.mp hf
          have hpm := List.mem_of_getElem? hp
          have pin := hin p hpm
          have hfd : Dp K _ x (.tuple [.str (S p.1), .int (p.2 : Int)]) := dp_same s3 _ _ hfd
          cases hfd with
          | @tup t zs _ g1 g2 =>
            cases g2 with
            | @cons x1 _ r1 _ hx1 g3 =>
            cases g3 with
            | @cons x2 _ r2 _ hx2 g4 =>
            cases g4
            cases hx1
            cases hx2
            refine ⟨t, _, rfl, g1, rfl, _, _, rfl, _, _, rfl, rfl, ?_⟩
            refine ⟨_, rfl, _, rfl, _, rfl, a, W, s, n, p.1, rfl, same_tup s3 ha2, hW, by omega, by have := pin.1; omega, pin.2.1, fun pa ps H5 npa S5 e5 ap ep => ?_⟩
            have il := (img_in hW pin.2.1).1
            have ns : p.1.length * s ≤ 16 * 4 := Nat.mul_le_mul (by have := pin.1; omega) hs4
            have hpl : ps.length ≤ 64 := by
              have h1 : ps.length = (rowsW n s (imgL W p.1)).length := by rw [← ep, List.length_map]
              rw [rows_len, il] at h1
              omega
            have s35 := s3.trans S5
            refine ⟨pa, rfl, ⟨_, SqL.of e5⟩, fun D hD => ?_⟩
            have wk : Walk (Itl K pa) ps.length (fun H => SqL K H pa (ps.map vZ)) (YAt (ps.map vZ)) := by
              have z := walk_list (K := K) (a := pa) (xs := ps.map vZ)
              rwa [List.length_map] at z
            have hcode : ∀ z ∈ ps, ∀ c ∈ z.2.1, c < 0x110000 := fun z hz c hc => by
              have h : z.2 ∈ rowsW n s (imgL W p.1) := ep ▸ List.mem_map_of_mem hz
              have := (img_in hW pin.2.1).2 c (win_sub (rows_win h) c hc)
              omega
            refine lc_filt ps (fun u => decide (u.2 ∉ qs)) vZ wk hD (by omega) (fun H' s => SqL.of (s _ _ e5)) ?_ ?_
            · rintro j u x H7 H8 R N hu s7 ⟨rfl, hx⟩ hR hN
              rw [List.getElem?_map, hu] at hx
              obtain rfl := Option.some.inj hx
              have hum := List.mem_of_getElem? hu
              have hua := s7 _ _ (ap u hum)
              refine ⟨rfl, _, rfl, _, rfl, dP u.2, qs.map dP, .tup (SqT.of hua) (.cons (.str _) (.cons (.int _) .nil)), .lst (same_lst (s35.trans s7) hb2) (dpAll_same (s35.trans s7) _ _ h22), shapedP (hcode u hum), hsq, _, rfl, ?_⟩
              rw [hinq]
              by_cases hq : u.2 ∈ qs
              · rw [decide_eq_true hq]
                exact iteF (hN (decide_eq_false fun h => h hq) _ (Same.refl _))
              · rw [decide_eq_false hq]
                exact iteT ⟨_, rfl, hR (decide_eq_true hq) _ (Same.refl _)⟩
            intro H7 s7 g7
            have g7' : H7 D = some (.lst ((ps.filter fun u => decide (u.2 ∉ qs)).map vZ)) := g7
            have hfi : (ps.filter fun u => decide (u.2 ∉ qs)) = [] ↔ ∀ q ∈ rowsW n s (imgL W p.1), q ∈ qs := by
              rw [List.filter_eq_nil_iff, ← ep]
              constructor
              · intro h q hq
                obtain ⟨z, hz, rfl⟩ := List.mem_map.mp hq
                exact Classical.byContradiction fun t => h z hz (decide_eq_true t)
              · intro h z hz q
                exact of_decide_eq_true q (h _ (List.mem_map_of_mem hz))
            have hat : AtZ H7 (ps.filter fun u => decide (u.2 ∉ qs)) := fun z hz => s7 _ _ (ap z (List.mem_filter.mp hz).1)
            have hsh : ∀ z ∈ (ps.filter fun u => decide (u.2 ∉ qs)), ∀ c ∈ z.2.1, c < 0x110000 := fun z hz => hcode z (List.mem_filter.mp hz).1
            generalize (ps.filter fun u => decide (u.2 ∉ qs)) = os at *
            refine ⟨by show 0 ≤ sizeLine; decide, ?_⟩
            walk_at "n8"
            have S38 := (s35.trans s7).trans S8
            refine ⟨_, _, .lst (SqL.of (S8 _ _ g7')) (dpZ (hat.same S8)), .lst (SqL.of e8) .nil, shapedZ hsh, shapedZ (zs := []) (fun _ h => nomatch h), _, rfl, ?_⟩
            rw [eqv_nil]
            by_cases ho : os = []
            · rw [show (!decide (os.map dZ = [])) = false by rw [ho]; rfl]
              refine iteF ⟨_, _, _, rfl, S38, fun v hv u hu => ?_⟩
              rw [take_snoc hp] at hv
              rcases List.mem_append.mp hv with h | h
              · exact hall v h u hu
              · rw [List.mem_singleton.mp h] at hu
                exact hfi.mp ho u hu
            · rw [show (!decide (os.map dZ = [])) = true by
                rw [decide_eq_false fun h => ho (List.map_eq_nil_iff.mp h)]; rfl]
              exact iteT (kf (fun hc => ho (hfi.mpr fun q hq => hc.2.1 p hpm q hq)) _ S38)
        · rintro σ H3 ⟨y3, y4, y5, rfl, s3, hall⟩
          rw [hyl, List.length_map, List.take_length] at hall
          refine ⟨_, rfl, _, rfl, a, W, s, n, rfl, same_tup s3 ha2, hW, by omega, fun i H4 S4 g1 g2 => ?_⟩
          rw [stL_of g1 g2]
          have st0 := stL_in hW (show n ≤ 200 by omega)
          generalize stL W s n = st at *
          refine ⟨by show 2 ≤ sizeLine; decide, ?_⟩
          walk_at "n5"
          have S35 := (s3.trans S4).trans S5
          refine ⟨_, rfl, dP (st, 0), qs.map dP, .tup (SqT.of e5) (.cons (.str _) (.cons (.int _) .nil)), .lst (same_lst S35 hb2) (dpAll_same S35 _ _ h22), shapedP (fun c hc => by have := st0.2 c hc; omega), hsq, ?_⟩
          rw [hinq]
          by_cases hsu : (st, 0) ∈ qs
          · rw [decide_eq_true hsu]
            exact kt ⟨hin, hall, hsu⟩ _ S35
          · rw [decide_eq_false hsu]
            exact kf (fun hc => hsu hc.2.2) _ S35

/-! ### _law_wider -/
def sp_law_wider (K : PySem.W.Frag) : Sp := fun vs H Q _ => ∃ (a b : Addr) (W : List (List Nat)) (s n : Nat) (us : List (Addr × WC)), vs = [.ref a, .int (n : Int), .ref b, .int 60] ∧ SqT K H a (W.map vW) ∧ RuleW W s ∧ n ≤ 16 ∧ SqL K H b (us.map vZ) ∧ AtZ H us ∧ us.length ≤ 5000 ∧ (∀ z ∈ us, PIn W s n z.2) ∧
  ∀ (q : Addr) (ws : List (Addr × WC)) H', H q = none → Same H H' → H' q = some (.lst (ws.map vZ)) → AtZ H' ws → ws.length ≤ us.length + 130 → (∀ z ∈ ws, PIn W s n z.2) → Q (.ref q) H'
set_option maxHeartbeats 4000000 in
theorem ok_law_wider (T : Txt K mg A) : FnOk P w K mg base CX0 3 A.f_law_wider A.d_law_wider ["rule", "length", "pairs", "most"] (sp_law_wider K) := by
  refine T.F_law_wider.ok sc_law_wider (fun vs H Q E h => ?_) (fun cdv A' outer s0 H vs Q E hr h => ?_)
  · obtain ⟨a, b, W, s, n, us, rfl, _⟩ := h
    rfl
  · obtain ⟨a, b, W, s, n, us, rfl, ha, hW, hn, hb, hat, hul, hin, k⟩ := h
    refine ⟨_, (pss_cons (ps_par (i := 4) (j := 5) (by rfl) sc_law_wider.nd rfl rfl (by decide) rfl rfl (pa_cons (pe_callTy (call_listK (K := K)) (by rfl) T.list (by decide +kernel) (pa_cons (pv 2) pa_nil)) (pa_cons pe_int pa_nil)) (by rfl))
  (pss_cons (ps_while PassesOwn.never (pt_chain op_lt op_lt (pv 5) (pe_callB (call_lenK (K := K)) (by rfl) T.len PySem.boot_len (pa_cons (pv 4) pa_nil)) (pv 3)) (pss_cons (ps_for PassesOwn.never rfl (pi_list (pe_call (ok_law_led T) hr (by rfl) T.g_law_led T.F_law_led.kp T.b_law_led .nil pass0 (pa_cons (pv 0) (pa_cons (pe_ix (ix_tupK (K := K)) (pe_ix (ix_listK (K := K)) (pv 4) (pv 5) (fun _ _ => rfl)) pe_int (fun _ _ => rfl)) (pa_cons (pv 1) pa_nil))))) (pg_name (i := 6) sc_law_wider.nd rfl (by first | exact Or.inl rfl | exact Or.inr rfl)) (pss_one (ps_if (pt_cmpR (op_notInD (Nat.lt_of_succ_lt (un66 hr))) (pv 6) (pv 4) rfl) (pss_one (ps_expr (pe_bm PySem.F.plainAttrs_list PySem.F.slot_list_append PySem.F.type_list_append mt_append (pv 4) (pa_cons (pv 6) pa_nil)))) pss_nil)))
  (pss_one (ps_set (i := 5) sc_law_wider.nd rfl (by first | exact Or.inl rfl | exact Or.inr rfl) (pe_op op_add (pv 5) pe_int)))))
  (pss_one (ps_ret (pv 4))))), ?_⟩
    have hsz : sizeLine = 16777216 := sizeLine_eq
    have hs4 := hW.2.2.2.1
    have hw4 := hW.2.1
    refine ⟨_, rfl, b, _, rfl, .inl hb, ?_⟩
    walk_at "n1"
    have nl1 := n1
    refine ⟨_, _, rfl, ?_⟩
    refine while_gh (fun m σ H' => ∃ (kk : Nat) (ws : List (Addr × WC)) (y6 : Option V), m + kk = 60 ∧ kk ≤ 60 ∧ σ = [some (.ref a), some (.int (n : Int)), some (.ref b), some (.int 60), some (.ref l1), some (.int (kk : Int)), y6] ∧ Same H H' ∧ H' l1 = some (.lst (ws.map vZ)) ∧ AtZ H' ws ∧ ws.length ≤ us.length + 130 ∧ ∀ z ∈ ws, PIn W s n z.2) (n := 60)
      ⟨0, us, none, rfl, by decide, rfl, S1, e1, hat.same S1, by omega, hin⟩ ?_
    rintro m σ H2 ⟨kk, ws, y6, hm, hk60, rfl, s2, e2, aw, hl, hw⟩ R hR
    refine ⟨_, rfl, _, rfl, l1, _, rfl, .inl (SqL.of e2), _, _, rfl, rfl, _, rfl, ?_⟩
    rw [List.length_map]
    have stop : R false H2 := hR false H2 (by
      rw [if_neg Bool.false_ne_true]
      exact ⟨_, rfl, k l1 ws H2 nl1 s2 e2 aw hl hw⟩)
    by_cases h1 : kk < ws.length
    · rw [decide_eq_true (by omega)]
      refine iteT ⟨_, rfl, _, _, rfl, rfl, _, rfl, ?_⟩
      by_cases h2 : ws.length < 60
      · rw [decide_eq_true (by omega)]
        refine hR _ _ (iteT ?_)
        clear stop hR
        obtain ⟨z, hzk⟩ : ∃ z, ws[kk]? = some z := ⟨_, List.getElem?_eq_getElem h1⟩
        have hzm := List.mem_of_getElem? hzk
        have zin := hw z hzm
        have zat := aw z hzm
        have il := (img_in hW zin.2.1).1
        have ns : z.2.1.length * s ≤ 16 * 4 := Nat.mul_le_mul (by have := zin.1; omega) hs4
        refine ⟨_, rfl, _, rfl, _, rfl, l1, _, _, vZ z, rfl, rfl, SqL.of e2, atI_nat (by rw [List.getElem?_map, hzk]; rfl), z.1, _, _, .str (S z.2.1), rfl, rfl, SqT.of zat, atI_nat (j := 0) rfl, _, rfl, a, W, s, n, z.2.1, rfl, same_tup s2 ha, hW, by omega, by have := zin.1; omega, zin.2.1, fun pa ps H4 npa S24 e4 ap ep => ?_⟩
        have hpl : ps.length ≤ 64 := by
          have h1 : ps.length = (rowsW n s (imgL W z.2.1)).length := by rw [← ep, List.length_map]
          rw [rows_len, il] at h1
          have := zin.1
          have hs2 := hW.2.2.1
          by_cases h0 : n = 0
          · rw [h0] at this; rw [this, Nat.zero_mul] at h1; omega
          · omega
        have hpin : ∀ y ∈ ps, PIn W s n y.2 := fun y hy => by
          have hy2 : y.2 ∈ rowsW n s (imgL W z.2.1) := ep ▸ List.mem_map_of_mem hy
          obtain ⟨j, hj, e⟩ := rows_mem2.mp hy2
          refine ⟨win_len (rows_win hy2), fun c hc => (img_in hW zin.2.1).2 c (win_sub (rows_win hy2) c hc), ?_⟩
          rw [e]
          have hs2 := hW.2.2.1
          exact Nat.mod_lt _ (by omega)
        refine ⟨pa, rfl, ⟨_, SqL.of e4⟩, for_it (D := { nx := _, rt := Q, bk := fun _ _ => True, ct := fun _ _ => True }) (walk_list (xs := ps.map vZ)) (fun j σ H' => ∃ (vs : List (Addr × WC)) (y6 : Option V), σ = [some (.ref a), some (.int (n : Int)), some (.ref b), some (.int 60), some (.ref l1), some (.int (kk : Int)), y6] ∧ Same H H' ∧ But l1 H4 H' ∧ H' l1 = some (.lst (vs.map vZ)) ∧ AtZ H' vs ∧ vs.length ≤ ws.length + j ∧ ∀ z ∈ vs, PIn W s n z.2)
          ⟨ws, y6, rfl, s2.trans S24, But.refl _ _, S24 _ _ e2, aw.same S24, Nat.le_refl _, hw⟩ (fun j σ H' _ h => ?_) ?_ ?_⟩
        · obtain ⟨_, _, _, _, B, _⟩ := h
          exact SqL.of (B _ _ (ne_of_none e2 npa).symm e4)
        · rintro j x σ H5 H6 hj ⟨vs, y6, rfl, s5, B5, e5, av, hvl, hv⟩ ⟨rfl, hx⟩
          rw [List.getElem?_map] at hx
          obtain ⟨y, hy, rfl⟩ := Option.map_eq_some_iff.mp hx
          have hym := List.mem_of_getElem? hy
          have yin := hpin y hym
          rw [List.length_map] at hj
          have yat5 := B5 _ _ (ne_of (ap y hym) (S24 _ _ e2) fun e => by cases e) (ap y hym)
          refine ⟨_, rfl, _, rfl, dP y.2, vs.map dZ, .tup (SqT.of yat5) (.cons (.str _) (.cons (.int _) .nil)), .lst (SqL.of e5) (dpZ av), shapedP (codeP hw4 yin), shapedZ fun z hz => codeP hw4 (hv z hz), _, rfl, ?_⟩
          rw [in_dP]
          by_cases hq : y.2 ∈ vs.map (·.2)
          · rw [decide_eq_true hq]
            exact iteF ⟨vs, _, rfl, s5, B5, e5, av, by omega, hv⟩
          · rw [decide_eq_false hq]
            refine iteT ⟨_, rfl, .inl ⟨rfl, _, SqL.of e5⟩, _, rfl, l1, _, _, rfl, rfl, e5, by rw [List.length_map]; omega, vs ++ [y], _, rfl, s5.own nl1, B5.upd_at, by rw [upd_same, List.map_append]; rfl, fun z hz => ?_, by rw [List.length_append]; show _ + 1 ≤ _; omega, fun z hz => ?_⟩
            · have hq9 : H6 z.1 = some (.tup [.str (S z.2.1), .int (z.2.2 : Int)]) := by
                rcases List.mem_append.mp hz with h | h
                · exact av z h
                · rw [List.mem_singleton.mp h]; exact yat5
              rw [upd_ne (ne_of hq9 e5 fun e => by cases e)]
              exact hq9
            · rcases List.mem_append.mp hz with h | h
              · exact hv z h
              · rw [List.mem_singleton.mp h]; exact yin
        · rintro σ H5 ⟨vs, y6, rfl, s5, B5, e5, av, hvl, hv⟩
          rw [List.length_map] at hvl
          exact ⟨_, rfl, _, _, rfl, rfl, m - 1, by omega, kk + 1, vs, _, by omega, by omega, rfl, s5, e5, av, by omega, hv⟩
      · rw [decide_eq_false (by omega)]
        exact stop
    · rw [decide_eq_false (by omega)]
      exact iteF ⟨_, rfl, stop⟩

/-! ### law -/
set_option hygiene false in
local macro_rules | `(tactic| walk_at "n31") => `(tactic| (intro l31 n31; generalize h31 : upd _ l31 _ = H31; obtain ⟨S31, e31⟩ := nw h31 n31; clear h31))
set_option hygiene false in
local macro_rules | `(tactic| walk_at "n32") => `(tactic| (intro l32 n32; generalize h32 : upd _ l32 _ = H32; obtain ⟨S32, e32⟩ := nw h32 n32; clear h32))
set_option hygiene false in
local macro_rules | `(tactic| walk_at "n33") => `(tactic| (intro l33 n33; generalize h33 : upd _ l33 _ = H33; obtain ⟨S33, e33⟩ := nw h33 n33; clear h33))
set_option hygiene false in
local macro_rules | `(tactic| walk_at "n34") => `(tactic| (intro l34 n34; generalize h34 : upd _ l34 _ = H34; obtain ⟨S34, e34⟩ := nw h34 n34; clear h34))
set_option hygiene false in
local macro_rules | `(tactic| walk_at "n35") => `(tactic| (intro l35 n35; generalize h35 : upd _ l35 _ = H35; obtain ⟨S35, e35⟩ := nw h35 n35; clear h35))
set_option hygiene false in
local macro_rules | `(tactic| walk_at "n36") => `(tactic| (intro l36 n36; generalize h36 : upd _ l36 _ = H36; obtain ⟨S36, e36⟩ := nw h36 n36; clear h36))
set_option hygiene false in
local macro_rules | `(tactic| walk_at "n37") => `(tactic| (intro l37 n37; generalize h37 : upd _ l37 _ = H37; obtain ⟨S37, e37⟩ := nw h37 n37; clear h37))
set_option hygiene false in
local macro_rules | `(tactic| walk_at "n38") => `(tactic| (intro l38 n38; generalize h38 : upd _ l38 _ = H38; obtain ⟨S38, e38⟩ := nw h38 n38; clear h38))
set_option hygiene false in
local macro_rules | `(tactic| walk_at "n39") => `(tactic| (intro l39 n39; generalize h39 : upd _ l39 _ = H39; obtain ⟨S39, e39⟩ := nw h39 n39; clear h39))
set_option hygiene false in
local macro_rules | `(tactic| walk_at "n40") => `(tactic| (intro l40 n40; generalize h40 : upd _ l40 _ = H40; obtain ⟨S40, e40⟩ := nw h40 n40; clear h40))
set_option hygiene false in
local macro_rules | `(tactic| walk_at "n41") => `(tactic| (intro l41 n41; generalize h41 : upd _ l41 _ = H41; obtain ⟨S41, e41⟩ := nw h41 n41; clear h41))
set_option hygiene false in
local macro_rules | `(tactic| walk_at "n42") => `(tactic| (intro l42 n42; generalize h42 : upd _ l42 _ = H42; obtain ⟨S42, e42⟩ := nw h42 n42; clear h42))
set_option hygiene false in
local macro_rules | `(tactic| walk_at "n43") => `(tactic| (intro l43 n43; generalize h43 : upd _ l43 _ = H43; obtain ⟨S43, e43⟩ := nw h43 n43; clear h43))
set_option hygiene false in
local macro_rules | `(tactic| walk_at "n44") => `(tactic| (intro l44 n44; generalize h44 : upd _ l44 _ = H44; obtain ⟨S44, e44⟩ := nw h44 n44; clear h44))
set_option hygiene false in
local macro_rules | `(tactic| walk_at "n45") => `(tactic| (intro l45 n45; generalize h45 : upd _ l45 _ = H45; obtain ⟨S45, e45⟩ := nw h45 n45; clear h45))
set_option hygiene false in
local macro_rules | `(tactic| walk_at "n46") => `(tactic| (intro l46 n46; generalize h46 : upd _ l46 _ = H46; obtain ⟨S46, e46⟩ := nw h46 n46; clear h46))
set_option hygiene false in
local macro_rules | `(tactic| walk_at "n47") => `(tactic| (intro l47 n47; generalize h47 : upd _ l47 _ = H47; obtain ⟨S47, e47⟩ := nw h47 n47; clear h47))
set_option hygiene false in
local macro_rules | `(tactic| walk_at "n48") => `(tactic| (intro l48 n48; generalize h48 : upd _ l48 _ = H48; obtain ⟨S48, e48⟩ := nw h48 n48; clear h48))
set_option hygiene false in
local macro_rules | `(tactic| walk_at "n49") => `(tactic| (intro l49 n49; generalize h49 : upd _ l49 _ = H49; obtain ⟨S49, e49⟩ := nw h49 n49; clear h49))
set_option hygiene false in
local macro_rules | `(tactic| walk_at "n50") => `(tactic| (intro l50 n50; generalize h50 : upd _ l50 _ = H50; obtain ⟨S50, e50⟩ := nw h50 n50; clear h50))
set_option hygiene false in
local macro_rules | `(tactic| walk_at "n51") => `(tactic| (intro l51 n51; generalize h51 : upd _ l51 _ = H51; obtain ⟨S51, e51⟩ := nw h51 n51; clear h51))
set_option hygiene false in
local macro_rules | `(tactic| walk_at "n52") => `(tactic| (intro l52 n52; generalize h52 : upd _ l52 _ = H52; obtain ⟨S52, e52⟩ := nw h52 n52; clear h52))
set_option hygiene false in
local macro_rules | `(tactic| walk_at "n53") => `(tactic| (intro l53 n53; generalize h53 : upd _ l53 _ = H53; obtain ⟨S53, e53⟩ := nw h53 n53; clear h53))
set_option hygiene false in
local macro_rules | `(tactic| walk_at "n54") => `(tactic| (intro l54 n54; generalize h54 : upd _ l54 _ = H54; obtain ⟨S54, e54⟩ := nw h54 n54; clear h54))
set_option hygiene false in
local macro_rules | `(tactic| walk_at "n55") => `(tactic| (intro l55 n55; generalize h55 : upd _ l55 _ = H55; obtain ⟨S55, e55⟩ := nw h55 n55; clear h55))
set_option hygiene false in
local macro_rules | `(tactic| walk_at "n56") => `(tactic| (intro l56 n56; generalize h56 : upd _ l56 _ = H56; obtain ⟨S56, e56⟩ := nw h56 n56; clear h56))
set_option hygiene false in
local macro_rules | `(tactic| walk_at "n57") => `(tactic| (intro l57 n57; generalize h57 : upd _ l57 _ = H57; obtain ⟨S57, e57⟩ := nw h57 n57; clear h57))
set_option hygiene false in
local macro_rules | `(tactic| walk_at "n58") => `(tactic| (intro l58 n58; generalize h58 : upd _ l58 _ = H58; obtain ⟨S58, e58⟩ := nw h58 n58; clear h58))
set_option hygiene false in
local macro_rules | `(tactic| walk_at "n59") => `(tactic| (intro l59 n59; generalize h59 : upd _ l59 _ = H59; obtain ⟨S59, e59⟩ := nw h59 n59; clear h59))
set_option hygiene false in
local macro_rules | `(tactic| walk_at "n60") => `(tactic| (intro l60 n60; generalize h60 : upd _ l60 _ = H60; obtain ⟨S60, e60⟩ := nw h60 n60; clear h60))
set_option hygiene false in
local macro_rules | `(tactic| walk_at "n61") => `(tactic| (intro l61 n61; generalize h61 : upd _ l61 _ = H61; obtain ⟨S61, e61⟩ := nw h61 n61; clear h61))
set_option hygiene false in
local macro_rules | `(tactic| walk_at "n62") => `(tactic| (intro l62 n62; generalize h62 : upd _ l62 _ = H62; obtain ⟨S62, e62⟩ := nw h62 n62; clear h62))
set_option hygiene false in
local macro_rules | `(tactic| walk_at "n63") => `(tactic| (intro l63 n63; generalize h63 : upd _ l63 _ = H63; obtain ⟨S63, e63⟩ := nw h63 n63; clear h63))
set_option hygiene false in
local macro_rules | `(tactic| walk_at "n64") => `(tactic| (intro l64 n64; generalize h64 : upd _ l64 _ = H64; obtain ⟨S64, e64⟩ := nw h64 n64; clear h64))
set_option hygiene false in
local macro_rules | `(tactic| walk_at "n65") => `(tactic| (intro l65 n65; generalize h65 : upd _ l65 _ = H65; obtain ⟨S65, e65⟩ := nw h65 n65; clear h65))
set_option hygiene false in
local macro_rules | `(tactic| walk_at "n66") => `(tactic| (intro l66 n66; generalize h66 : upd _ l66 _ = H66; obtain ⟨S66, e66⟩ := nw h66 n66; clear h66))
set_option hygiene false in
local macro_rules | `(tactic| walk_at "n67") => `(tactic| (intro l67 n67; generalize h67 : upd _ l67 _ = H67; obtain ⟨S67, e67⟩ := nw h67 n67; clear h67))
set_option hygiene false in
local macro_rules | `(tactic| walk_at "n68") => `(tactic| (intro l68 n68; generalize h68 : upd _ l68 _ = H68; obtain ⟨S68, e68⟩ := nw h68 n68; clear h68))
set_option hygiene false in
local macro_rules | `(tactic| walk_at "n69") => `(tactic| (intro l69 n69; generalize h69 : upd _ l69 _ = H69; obtain ⟨S69, e69⟩ := nw h69 n69; clear h69))
set_option hygiene false in
local macro_rules | `(tactic| walk_at "n70") => `(tactic| (intro l70 n70; generalize h70 : upd _ l70 _ = H70; obtain ⟨S70, e70⟩ := nw h70 n70; clear h70))
set_option hygiene false in
local macro_rules | `(tactic| walk_at "n71") => `(tactic| (intro l71 n71; generalize h71 : upd _ l71 _ = H71; obtain ⟨S71, e71⟩ := nw h71 n71; clear h71))
set_option hygiene false in
local macro_rules | `(tactic| walk_at "n72") => `(tactic| (intro l72 n72; generalize h72 : upd _ l72 _ = H72; obtain ⟨S72, e72⟩ := nw h72 n72; clear h72))
set_option hygiene false in
local macro_rules | `(tactic| walk_at "n73") => `(tactic| (intro l73 n73; generalize h73 : upd _ l73 _ = H73; obtain ⟨S73, e73⟩ := nw h73 n73; clear h73))
set_option hygiene false in
local macro_rules | `(tactic| walk_at "n74") => `(tactic| (intro l74 n74; generalize h74 : upd _ l74 _ = H74; obtain ⟨S74, e74⟩ := nw h74 n74; clear h74))
set_option hygiene false in
local macro_rules | `(tactic| walk_at "n75") => `(tactic| (intro l75 n75; generalize h75 : upd _ l75 _ = H75; obtain ⟨S75, e75⟩ := nw h75 n75; clear h75))
set_option hygiene false in
local macro_rules | `(tactic| walk_at "n76") => `(tactic| (intro l76 n76; generalize h76 : upd _ l76 _ = H76; obtain ⟨S76, e76⟩ := nw h76 n76; clear h76))
set_option hygiene false in
local macro_rules | `(tactic| walk_at "n77") => `(tactic| (intro l77 n77; generalize h77 : upd _ l77 _ = H77; obtain ⟨S77, e77⟩ := nw h77 n77; clear h77))
set_option hygiene false in
local macro_rules | `(tactic| walk_at "n78") => `(tactic| (intro l78 n78; generalize h78 : upd _ l78 _ = H78; obtain ⟨S78, e78⟩ := nw h78 n78; clear h78))
set_option hygiene false in
local macro_rules | `(tactic| walk_at "n79") => `(tactic| (intro l79 n79; generalize h79 : upd _ l79 _ = H79; obtain ⟨S79, e79⟩ := nw h79 n79; clear h79))
set_option hygiene false in
local macro_rules | `(tactic| walk_at "n80") => `(tactic| (intro l80 n80; generalize h80 : upd _ l80 _ = H80; obtain ⟨S80, e80⟩ := nw h80 n80; clear h80))
set_option hygiene false in
local macro_rules | `(tactic| walk_at "n81") => `(tactic| (intro l81 n81; generalize h81 : upd _ l81 _ = H81; obtain ⟨S81, e81⟩ := nw h81 n81; clear h81))
set_option hygiene false in
local macro_rules | `(tactic| walk_at "n82") => `(tactic| (intro l82 n82; generalize h82 : upd _ l82 _ = H82; obtain ⟨S82, e82⟩ := nw h82 n82; clear h82))
set_option hygiene false in
local macro_rules | `(tactic| walk_at "n83") => `(tactic| (intro l83 n83; generalize h83 : upd _ l83 _ = H83; obtain ⟨S83, e83⟩ := nw h83 n83; clear h83))
set_option hygiene false in
local macro_rules | `(tactic| walk_at "n84") => `(tactic| (intro l84 n84; generalize h84 : upd _ l84 _ = H84; obtain ⟨S84, e84⟩ := nw h84 n84; clear h84))
set_option hygiene false in
local macro_rules | `(tactic| walk_at "n85") => `(tactic| (intro l85 n85; generalize h85 : upd _ l85 _ = H85; obtain ⟨S85, e85⟩ := nw h85 n85; clear h85))
set_option hygiene false in
local macro_rules | `(tactic| walk_at "n86") => `(tactic| (intro l86 n86; generalize h86 : upd _ l86 _ = H86; obtain ⟨S86, e86⟩ := nw h86 n86; clear h86))
set_option hygiene false in
local macro_rules | `(tactic| walk_at "n87") => `(tactic| (intro l87 n87; generalize h87 : upd _ l87 _ = H87; obtain ⟨S87, e87⟩ := nw h87 n87; clear h87))
set_option hygiene false in
local macro_rules | `(tactic| walk_at "n88") => `(tactic| (intro l88 n88; generalize h88 : upd _ l88 _ = H88; obtain ⟨S88, e88⟩ := nw h88 n88; clear h88))
set_option hygiene false in
local macro_rules | `(tactic| walk_at "n89") => `(tactic| (intro l89 n89; generalize h89 : upd _ l89 _ = H89; obtain ⟨S89, e89⟩ := nw h89 n89; clear h89))
set_option maxHeartbeats 16000000 in
theorem ok_law (T : Txt K mg A) : FnG P w K mg base CX0 7 A.f_law A.d_law ["script"] (spTop K) := by
  refine T.F_law.okG sc_law (fun vs H Q E h => ?_) (fun cdv A' outer s0 H vs Q E hgd hr h => ?_)
  · obtain ⟨a, ns, rfl, _⟩ := h
    rfl
  · obtain ⟨a, ns, rfl, hS, hn, k⟩ := h
    refine ⟨_, (pss_cons (ps_set (i := 1) sc_law.nd rfl (by first | exact Or.inl rfl | exact Or.inr rfl) (pe_call (ok_law_open T) (hr.mono (by decide)) (by rfl) T.g_law_open T.F_law_open.kp T.b_law_open .nil pass0 (pa_cons (pv 0) pa_nil)))
  (pss_cons (ps_for PassesOwn.never rfl (pi_range1 (by rfl) T.range (pa_cons pe_int pa_nil)) (pg_name (i := 2) sc_law.nd rfl (by first | exact Or.inl rfl | exact Or.inr rfl)) (pss_cons (ps_asg (pe_tup (pa_cons (pe_call (ok_law_rule T) (hr.mono (by decide)) (by rfl) T.g_law_rule T.F_law_rule.kp T.b_law_rule .nil pass0 (pa_cons (pe_call (ok_law_anew T) (hr.mono (by decide)) (by rfl) T.g_law_anew T.F_law_anew.kp T.b_law_anew .nil pass0 (pa_cons (pv 1) pa_nil)) pa_nil)) (pa_cons (pe_op op_add pe_int (pe_call (ok_law_take T) (hr.mono (by decide)) (by rfl) T.g_law_take T.F_law_take.kp T.b_law_take .nil pass0 (pa_cons (pv 1) (pa_cons pe_int pa_nil)))) pa_nil))) (pg_tup (by rfl) (pgs_cons (pg_name (i := 3) sc_law.nd rfl (by first | exact Or.inl rfl | exact Or.inr rfl)) (pgs_cons (pg_name (i := 4) sc_law.nd rfl (by first | exact Or.inl rfl | exact Or.inr rfl)) pgs_nil))))
  (pss_cons (ps_par (i := 5) (j := 6) (by rfl) sc_law.nd rfl rfl (by decide) rfl rfl (pa_cons (pe_call (ok_law_pairs T) (hr.mono (by decide)) (by rfl) T.g_law_pairs T.F_law_pairs.kp T.b_law_pairs .nil pass0 (pa_cons (pv 3) (pa_cons (pv 4) pa_nil))) (pa_cons (pe_callB call_len_str (by rfl) T.len PySem.boot_len (pa_cons (pe_ix (ix_tupK (K := K)) (pv 3) pe_int (fun _ _ => rfl)) pa_nil)) pa_nil)) (by rfl))
  (pss_cons (ps_par (i := 7) (j := 8) (by rfl) sc_law.nd rfl rfl (by decide) rfl rfl (pa_cons (pe_call (ok_law_take T) (hr.mono (by decide)) (by rfl) T.g_law_take T.F_law_take.kp T.b_law_take .nil pass0 (pa_cons (pv 1) (pa_cons (pe_callB (call_lenK (K := K)) (by rfl) T.len PySem.boot_len (pa_cons (pv 5) pa_nil)) pa_nil))) (pa_cons (pe_call (ok_law_text T) (hr.mono (by decide)) (by rfl) T.g_law_text T.F_law_text.kp T.b_law_text .nil pass0 (pa_cons (pe_call (ok_law_anew T) (hr.mono (by decide)) (by rfl) T.g_law_anew T.F_law_anew.kp T.b_law_anew .nil pass0 (pa_cons (pv 1) pa_nil)) (pa_cons (pv 3) (pa_cons (pv 4) pa_nil)))) pa_nil)) (by rfl))
  (pss_cons (ps_asg (pe_ix (ix_listK (K := K)) (pv 5) (pv 7) (fun _ _ => rfl)) (pg_tup (by rfl) (pgs_cons (pg_name (i := 9) sc_law.nd rfl (by first | exact Or.inl rfl | exact Or.inr rfl)) (pgs_cons (pg_name (i := 10) sc_law.nd rfl (by first | exact Or.inl rfl | exact Or.inr rfl)) pgs_nil))))
  (pss_cons (ps_set (i := 11) sc_law.nd rfl (by first | exact Or.inl rfl | exact Or.inr rfl) (pe_lst (pa_cons (pe_tup (pa_cons (pv 9) (pa_cons (pv 6) pa_nil))) (pa_cons (pe_tup (pa_cons (pv 9) (pa_cons (pe_un un_neg pe_int) pa_nil))) (pa_cons (pe_tup (pa_cons (pv 9) (pa_cons pe_bl pa_nil))) (pa_cons (pe_tup (pa_cons (pv 9) (pa_cons (pe_callTy call_str_int (by rfl) T.str (by decide +kernel) (pa_cons (pv 10) pa_nil)) pa_nil))) (pa_cons (pe_tup (pa_cons (pv 9) pa_nil)) (pa_cons (pe_lst (pa_cons (pv 9) (pa_cons (pv 10) pa_nil))) (pa_cons (pv 9) (pa_cons pe_non pa_nil))))))))))
  (pss_cons (ps_set (i := 11) sc_law.nd rfl (by first | exact Or.inl rfl | exact Or.inr rfl) (pe_op op_cat (pv 11) (pe_lst (pa_cons (pe_tup (pa_cons (pe_op op_add_str (pv 9) pe_str) (pa_cons (pv 10) pa_nil))) (pa_cons (pe_tup (pa_cons (pe_slice sl_str (pv 9) (po_some pe_int) po_none) (pa_cons (pv 10) pa_nil))) (pa_cons (pe_tup (pa_cons (pe_op op_repS pe_str (pv 4)) (pa_cons (pv 10) pa_nil))) (pa_cons (pe_tup (pa_cons pe_non (pa_cons (pv 10) pa_nil))) (pa_cons (pe_tup (pa_cons (pv 10) (pa_cons (pv 9) pa_nil))) (pa_cons (pe_tup (pa_cons (pv 9) (pa_cons (pv 10) (pa_cons pe_int pa_nil)))) pa_nil)))))))))
  (pss_cons (ps_set (i := 11) sc_law.nd rfl (by first | exact Or.inl rfl | exact Or.inr rfl) (pe_call (ok_law_one T) (hr.mono (by decide)) (by rfl) T.g_law_one T.F_law_one.kp T.b_law_one .nil pass0 (pa_cons (pv 1) (pa_cons (pe_op op_cat (pv 11) (pe_op op_rep (pe_lc (own := [("k", 17)]) (g := gName 17) (tt := tYes) (by rfl) sc_law.nd (pi_range1 (by rfl) T.range (pa_cons (pv 6) pa_nil)) (blkOk_by (own := [("k", 17)]) (N := ["script", "pen", "turn", "rule", "length", "good", "size", "at", "text", "word", "cut", "odd", "some", "value", "kept", "due", "told", "k", "one", "own"]) (sc := defScope s_law) (by decide +kernel)) (fun _ _ _ _ _ => (pg_name (i := 17) sc_law.nd rfl (by first | exact Or.inl rfl | exact Or.inr rfl))) (fun _ _ _ _ _ => pts_nil) (fun _ _ _ _ _ => (pe_tup (pa_cons (pv 9) (pa_cons (pv 17) pa_nil))))) pe_int)) pa_nil))))
  (pss_cons (ps_set (i := 12) sc_law.nd rfl (by first | exact Or.inl rfl | exact Or.inr rfl) (pe_lst (pa_cons (pv 5) (pa_cons (pe_slice3 (pv 5) po_none po_none (pe_un un_neg pe_int)) (pa_cons (pe_op op_cat (pv 5) (pe_slice (sl_listK (K := K)) (pv 5) (po_some (pv 7)) po_none)) (pa_cons (pe_op op_cat (pe_slice (sl_listK (K := K)) (pv 5) po_none (po_some (pv 7))) (pe_slice (sl_listK (K := K)) (pv 5) (po_some (pe_op op_add (pv 7) pe_int)) po_none)) (pa_cons (pe_op op_cat (pv 5) (pe_lst (pa_cons (pv 11) pa_nil))) (pa_cons (pe_callTy call_tuple_of (by rfl) T.tuple (by decide +kernel) (pa_cons (pv 5) pa_nil)) (pa_cons (pe_lst pa_nil) (pa_cons pe_non pa_nil))))))))))
  (pss_cons (ps_set (i := 12) sc_law.nd rfl (by first | exact Or.inl rfl | exact Or.inr rfl) (pe_op op_cat (pv 12) (pe_lst (pa_cons (pe_op op_cat (pe_op op_cat (pe_slice (sl_listK (K := K)) (pv 5) po_none (po_some (pv 7))) (pe_lst (pa_cons (pv 11) pa_nil))) (pe_slice (sl_listK (K := K)) (pv 5) (po_some (pe_op op_add (pv 7) pe_int)) po_none)) (pa_cons (pe_lst (pa_cons (pe_tup (pa_cons (pe_call (ok_law_start T) (hr.mono (by decide)) (by rfl) T.g_law_start T.F_law_start.kp T.b_law_start .nil pass0 (pa_cons (pv 3) (pa_cons (pv 4) pa_nil))) (pa_cons pe_int pa_nil))) pa_nil)) (pa_cons (pe_lc (own := [("one", 18), ("own", 19)]) (g := gTup K 2 (gCons (gName 18) (gCons (gName 19) gNil))) (tt := tYes) (by rfl) sc_law.nd (pi_list (pv 5)) (blkOk_by (own := [("one", 18), ("own", 19)]) (N := ["script", "pen", "turn", "rule", "length", "good", "size", "at", "text", "word", "cut", "odd", "some", "value", "kept", "due", "told", "k", "one", "own"]) (sc := defScope s_law) (by decide +kernel)) (fun _ _ _ _ _ => (pg_tup (by rfl) (pgs_cons (pg_name (i := 18) sc_law.nd rfl (by first | exact Or.inl rfl | exact Or.inr rfl)) (pgs_cons (pg_name (i := 19) sc_law.nd rfl (by first | exact Or.inl rfl | exact Or.inr rfl)) pgs_nil)))) (fun _ _ _ _ _ => pts_nil) (fun _ _ _ _ _ => (pv 18))) pa_nil))))))
  (pss_cons (ps_expr (pe_bm PySem.F.plainAttrs_list PySem.F.slot_list_append PySem.F.type_list_append mt_append (pv 12) (pa_cons (pe_slice (sl_listK (K := K)) (pv 5) po_none (po_some pe_int)) pa_nil)))
  (C8.pss_cut (ps_if (pt_cmpR op_eq (pe_callB call_len_str (by rfl) T.len PySem.boot_len (pa_cons (pv 8) pa_nil)) (pv 4) (nomark _)) (pss_cons (ps_set (i := 12) sc_law.nd rfl (by first | exact Or.inl rfl | exact Or.inr rfl) (pe_op op_cat (pv 12) (pe_lst (pa_cons (pe_call (ok_law_wider T) (hr.mono (by decide)) (by rfl) T.g_law_wider T.F_law_wider.kp T.b_law_wider .nil pass0 (pa_cons (pv 3) (pa_cons (pv 4) (pa_cons (pe_op op_cat (pv 5) (pe_lst (pa_cons (pe_tup (pa_cons (pv 8) (pa_cons (pe_call (ok_law_take T) (hr.mono (by decide)) (by rfl) T.g_law_take T.F_law_take.kp T.b_law_take .nil pass0 (pa_cons (pv 1) (pa_cons (pv 6) pa_nil))) pa_nil))) pa_nil))) (pa_cons pe_int pa_nil))))) pa_nil))))
  (pss_one (ps_expr (pe_bm PySem.F.plainAttrs_list PySem.F.slot_list_append PySem.F.type_list_append mt_append (pv 12) (pa_cons (pe_slice (sl_listK (K := K)) (pe_call (ok_law_wider T) (hr.mono (by decide)) (by rfl) T.g_law_wider T.F_law_wider.kp T.b_law_wider .nil pass0 (pa_cons (pv 3) (pa_cons (pv 4) (pa_cons (pe_lst (pa_cons (pe_tup (pa_cons (pv 8) (pa_cons pe_int pa_nil))) (pa_cons (pe_tup (pa_cons (pe_call (ok_law_start T) (hr.mono (by decide)) (by rfl) T.g_law_start T.F_law_start.kp T.b_law_start .nil pass0 (pa_cons (pv 3) (pa_cons (pv 4) pa_nil))) (pa_cons pe_int pa_nil))) pa_nil))) (pa_cons pe_int pa_nil))))) (po_some pe_int) po_none) pa_nil))))) pss_nil)
  (pss_one (ps_for PassesOwn.never rfl (pi_list (pv 12)) (pg_name (i := 13) sc_law.nd rfl (by first | exact Or.inl rfl | exact Or.inr rfl)) (pss_cons (ps_par (i := 14) (j := 15) (by rfl) sc_law.nd rfl rfl (by decide) rfl rfl (pa_cons (pe_callB (call_reprK hgd (un66 hr)) (by rfl) T.repr (by decide +kernel) (pa_cons (pv 13) pa_nil)) (pa_cons (pe_call (ok_law_is_closed_list T) (hr.mono (by decide)) (by rfl) T.g_law_is_closed_list T.F_law_is_closed_list.kp T.b_law_is_closed_list .nil pass0 (pa_cons (pv 3) (pa_cons (pv 4) (pa_cons (pv 13) pa_nil)))) pa_nil)) (by rfl))
  (pss_one (ps_if (PW.pt (pw_or (pt_cmpR op_ne (pe_callB (call_reprK hgd (un66 hr)) (by rfl) T.repr (by decide +kernel) (pa_cons (pe_call (ok_is_cut_list T) hr (by rfl) T.g_is_cut_list T.F_is_cut_list.kp T.b_is_cut_list .nil pass0 (pa_cons (pv 3) (pa_cons (pv 4) (pa_cons (pv 13) pa_nil)))) pa_nil)) (pe_callB (call_reprK hgd (un66 hr)) (by rfl) T.repr (by decide +kernel) (pa_cons (pv 15) pa_nil)) (nomark _)) (pw_or1 (pt_cmpR op_ne (pe_callB (call_reprK hgd (un66 hr)) (by rfl) T.repr (by decide +kernel) (pa_cons (pv 13) pa_nil)) (pv 14) (nomark _))))) (pss_one (ps_ret pe_bl)) pss_nil)))))))))))))))))
  (pss_cons (ps_asg (pe_tup (pa_cons (pe_call (ok_law_one T) (hr.mono (by decide)) (by rfl) T.g_law_one T.F_law_one.kp T.b_law_one .nil pass0 (pa_cons (pv 1) (pa_cons (pe_lst (pa_cons (pe_tup (pa_cons pe_str (pa_cons pe_str pa_nil))) (pa_cons (pe_tup (pa_cons pe_str (pa_cons pe_str pa_nil))) (pa_cons (pe_tup (pa_cons pe_str (pa_cons pe_str pa_nil))) pa_nil)))) pa_nil))) (pa_cons (pe_op op_add pe_int (pe_call (ok_law_take T) (hr.mono (by decide)) (by rfl) T.g_law_take T.F_law_take.kp T.b_law_take .nil pass0 (pa_cons (pv 1) (pa_cons pe_int pa_nil)))) pa_nil))) (pg_tup (by rfl) (pgs_cons (pg_name (i := 3) sc_law.nd rfl (by first | exact Or.inl rfl | exact Or.inr rfl)) (pgs_cons (pg_name (i := 4) sc_law.nd rfl (by first | exact Or.inl rfl | exact Or.inr rfl)) pgs_nil))))
  (pss_cons (ps_set (i := 5) sc_law.nd rfl (by first | exact Or.inl rfl | exact Or.inr rfl) (pe_call (ok_law_pairs T) (hr.mono (by decide)) (by rfl) T.g_law_pairs T.F_law_pairs.kp T.b_law_pairs .nil pass0 (pa_cons (pv 3) (pa_cons (pv 4) pa_nil))))
  (pss_cons (ps_setLc (i := 16) (own := [("one", 18)]) (g := gName 18) (tt := tYes) (by rfl) sc_law.nd rfl rfl (sw_true rfl rfl rfl (by decide +kernel)) (pi_tup (pe_tup (pa_cons (pv 5) (pa_cons (pe_slice (sl_listK (K := K)) (pv 5) (po_some pe_int) po_none) (pa_cons (pe_slice3 (pv 5) po_none po_none (pe_un un_neg pe_int)) (pa_cons (pe_slice (sl_listK (K := K)) (pv 5) po_none (po_some (pe_un un_neg pe_int))) pa_nil)))))) (blkOk_by (own := [("one", 18)]) (N := ["script", "pen", "turn", "rule", "length", "good", "size", "at", "text", "word", "cut", "odd", "some", "value", "kept", "due", "told", "k", "one", "own"]) (sc := defScope s_law) (by decide +kernel)) (fun _ _ _ _ _ => (pg_name (i := 18) sc_law.nd rfl (by first | exact Or.inl rfl | exact Or.inr rfl))) (fun _ _ _ _ _ => pts_nil) (fun _ _ _ _ _ => (pe_call (ok_is_cut_list T) hr (by rfl) T.g_is_cut_list T.F_is_cut_list.kp T.b_is_cut_list .nil pass0 (pa_cons (pv 3) (pa_cons (pv 4) (pa_cons (pv 18) pa_nil))))))
  (pss_one (ps_ret (pe_cmpR (op_eqD hr.units) (pv 16) (pe_lst (pa_cons pe_bl (pa_cons pe_bl (pa_cons pe_bl (pa_cons pe_bl pa_nil))))) (nomark _))))))))), ?_⟩
    have hsz : sizeLine = 16777216 := sizeLine_eq
    have sA : (Str.ofString "a") = S [97] := by decide +kernel
    have sE : (Str.ofString "e") = S [101] := by decide +kernel
    refine ⟨_, rfl, a, ns, rfl, hS, hn, fun p c H1 S1 np nc P1 => ?_⟩
    refine ⟨3, rfl, by decide, by decide, for_it walk_rangeN (fun i σ H' => ∃ y2 y3 y4 y5 y6 y7 y8 y9 y10 y11 y12 y13 y14 y15, σ = [some (.ref a), some (.ref p), y2, y3, y4, y5, y6, y7, y8, y9, y10, y11, y12, y13, y14, y15, none, none, none, none] ∧ Pen H' p c (i * 1000))
      ⟨none, none, none, none, none, none, none, none, none, none, none, none, none, none, rfl, P1⟩ (fun _ _ _ _ _ => trivial) ?_ ?_⟩
    · rintro i x σ H2 H3 hi ⟨y2, y3, y4, y5, y6, y7, y8, y9, y10, y11, y12, y13, y14, y15, rfl, P2⟩ ⟨rfl, rfl⟩
      replace hi : i < 3 := hi
      -- rule, length
      refine ⟨_, rfl, p, c, i * 1000, rfl, P2, fun H4 B4 P4 => ?_⟩
      refine ⟨p, c, i * 1000, rfl, P4, by omega, fun ra W H5 hT hP B5 P5 => ?_⟩
      obtain ⟨s, hW⟩ := hP.w
      have hs2 := hW.2.2.1
      have hs4 := hW.2.2.2.1
      have hw2 := hW.1
      have hw4 := hW.2.1
      refine ⟨_, rfl, p, c, _, 4, rfl, P5, by omega, by decide, by decide, fun n0 H6 hn0 B6 P6 => ?_⟩
      have hT6 : SqT K H6 ra (W.map vW) := P5.tup B6 hT
      obtain ⟨n, hnn⟩ : ∃ n, n = 1 + n0 := ⟨_, rfl⟩
      refine ⟨_, _, rfl, rfl, by show 2 ≤ sizeLine; decide, ?_⟩
      walk_at "n7"
      have e7' : H7 l7 = some (.tup [.ref ra, .int (n : Int)]) := by
        rw [e7]
        show some (HO.tup [V.ref ra, V.int ((1 : Int) + (n0 : Int))]) = _
        rw [show ((1 : Int) + (n0 : Int)) = (n : Int) by omega]
      have hn1 : 1 ≤ n := by omega
      have hn5 : n ≤ 4 := by omega
      have hT7 := same_tup S7 hT6
      have P7 := P6.same S7
      refine ⟨l7, _, rfl, SqT.of e7', rfl, _, _, rfl, _, _, rfl, rfl, ?_⟩
      clear B4 B5 B6 P2 P4 P5 P6 hT hT6 e7 e7' n7 S7 hnn hn0
      obtain ⟨fn1, fn2, fn3⟩ := few_num (n := n) (s := s) (m := W.length) (by omega) (by omega) (by omega) hn1 hs2
      obtain ⟨w0, hw0⟩ : ∃ w0, W[0]? = some w0 := ⟨_, List.getElem?_eq_getElem (by omega)⟩
      have hw0s := (hW.2.2.2.2 w0 (List.mem_of_getElem? hw0)).1
      have hv0 : (W.map vW)[0]? = some (vW w0) := by rw [List.getElem?_map, hw0]; rfl
      -- good
      refine ⟨_, rfl, _, rfl, ra, W, s, n, rfl, hT7, hW, hn1, by omega, by omega, fun ga zs H8 nga S8 eg az gnd hgood => ?_⟩
      have st0 := stL_in hW (show n ≤ 200 by omega)
      have gfew := rchP_few hW hn1 (show n ≤ 200 by omega) gnd fun w hw => (hgood w).mp hw
      rw [List.length_map] at gfew
      have gin : ∀ z ∈ zs, PIn W s n z.2 := fun z hz => rchP_in hW st0 ((hgood z.2).mp (List.mem_map_of_mem hz))
      have g0 : 0 < zs.length := by
        have := List.length_pos_of_mem ((hgood _).mpr .start)
        rwa [List.length_map] at this
      have nga2 := P7.ne_free nga
      have P8 := P7.same S8
      have hT8 := same_tup S8 hT7
      refine ⟨_, rfl, ra, _, _, vW w0, rfl, rfl, hT8, atI_nat hv0, S w0, rfl, by rw [len_S]; omega, ?_⟩
      rw [len_S, hw0s]
      refine ⟨_, _, rfl, ?_⟩
      -- at, text
      refine ⟨_, rfl, _, rfl, ga, _, rfl, .inl (SqL.of eg), p, c, _, zs.length, (by rw [List.length_map]; rfl), P8, by omega, g0, by omega, fun at_ H9 hat B9 P9 => ?_⟩
      refine ⟨_, rfl, p, c, _, rfl, P9, fun H10 B10 P10 => ?_⟩
      have hT10 := P9.tup B10 (P8.tup B9 hT8)
      refine ⟨_, rfl, _, rfl, p, c, _, ra, W, n, rfl, P10, by omega, hT10, by omega, hw4, by omega, fun wt H11 hwl hwc B11 P11 => ?_⟩
      have hT11 := P10.tup B11 hT10
      have eg11 := B11 _ _ nga2.1 (B10 _ _ nga2.1 (B9 _ _ nga2.1 eg))
      have az11 : AtZ H11 zs := fun z hz => by
        obtain ⟨ns, i, w, ⟨a1, _⟩, _⟩ := P8
        have np := ne_of (az z hz) a1 fun e => by cases e
        exact B11 _ _ np (B10 _ _ np (B9 _ _ np (az z hz)))
      clear P8 hT8 P9 hT10 P10 B9 B10 B11 eg az hT7 P7 S8
      refine ⟨_, _, rfl, ?_⟩
      obtain ⟨z0, hz0⟩ : ∃ z0, zs[at_]? = some z0 := ⟨_, List.getElem?_eq_getElem hat⟩
      have hz0m := List.mem_of_getElem? hz0
      have z0in := gin z0 hz0m
      refine ⟨_, rfl, _, rfl, ga, _, _, vZ z0, rfl, rfl, SqL.of eg11, atI_nat (by rw [List.getElem?_map, hz0]; rfl), z0.1, _, rfl, SqT.of (az11 z0 hz0m), rfl, _, _, rfl, _, _, rfl, rfl, ?_⟩
      have hwt : z0.2.1.length = n := z0in.1
      have hwtc : ∀ c ∈ z0.2.1, c < 128 := fun c hc => by have := z0in.2.1 c hc; omega
      have hct : z0.2.2 < 5 := by have := z0in.2.2; omega
      generalize z0.2.1 = wd at hwt hwtc
      generalize z0.2.2 = ct at hct
      -- odd
      refine ⟨_, rfl, _, rfl, by show 2 ≤ sizeLine; decide, ?_⟩
      walk_at "n12"
      refine ⟨_, rfl, _, rfl, by show 2 ≤ sizeLine; decide, ?_⟩
      walk_at "n13"
      refine ⟨_, rfl, by show 2 ≤ sizeLine; decide, ?_⟩
      walk_at "n14"
      refine ⟨_, rfl, _, rfl, (ct : Int), rfl, ?_, by show 2 ≤ sizeLine; decide, ?_⟩
      · have key : ∀ c, c < 5 → ((c : Nat) : Int).natAbs.log2 < 1920 := by decide
        exact key ct hct
      walk_at "n15"
      refine ⟨_, rfl, by show 1 ≤ sizeLine; decide, ?_⟩
      walk_at "n16"
      refine ⟨_, rfl, _, rfl, by show 2 ≤ sizeLine; decide, ?_⟩
      walk_at "n17"
      refine ⟨_, rfl, by show 8 ≤ sizeLine; decide, ?_⟩
      walk_at "n18"
      dsimp only [tNoPart]
      refine ⟨_, rfl, _, rfl, _, _, rfl, rfl, by rw [len_S]; show _ + 1 ≤ _; omega, _, rfl, by show 2 ≤ sizeLine; decide, ?_⟩
      walk_at "n19"
      rw [sA, SX.S_cat] at e19
      refine ⟨_, rfl, _, rfl, S wd, rfl, by rw [len_S]; omega, _, rfl, by show 2 ≤ sizeLine; decide, ?_⟩
      walk_at "n20"
      rw [cutS_S, show cutL wd (some 1) none = wd.drop 1 from cutL_suf wd 1] at e20
      have mE : PySem.MulOk (Str.ofString "e") (n : Int) := by
        rw [sE]
        exact mulOk_S (by show 1 * n ≤ _; omega) (by omega)
      refine ⟨_, rfl, _, (n : Int), rfl, rfl, mE, _, rfl, by show 2 ≤ sizeLine; decide, ?_⟩
      walk_at "n21"
      rw [sE, mul_S] at e21
      refine ⟨_, rfl, by show 2 ≤ sizeLine; decide, ?_⟩
      walk_at "n22"
      refine ⟨_, rfl, _, rfl, by show 2 ≤ sizeLine; decide, ?_⟩
      walk_at "n23"
      refine ⟨_, rfl, _, rfl, by show 3 ≤ sizeLine; decide, ?_⟩
      walk_at "n24"
      refine ⟨by show 6 ≤ sizeLine; decide, ?_⟩
      walk_at "n25"
      have e18' := S25 _ _ (S24 _ _ (S23 _ _ (S22 _ _ (S21 _ _ (S20 _ _ (S19 _ _ e18))))))
      refine ⟨l18, l25, _, _, rfl, rfl, e18', e25, by show 8 + 6 ≤ sizeLine; decide, ?_⟩
      walk_at "n26"
      -- the draw
      refine ⟨_, rfl, _, rfl, _, rfl, (s : Int), rfl, by omega, by omega, fun D hD => ?_⟩
      have wkr : Walk (Itr 0 ((s : Int)).toNat) s (fun _ => True) (YFn vN) := by
        rw [Int.toNat_natCast]
        exact walk_rangeN
      refine lc_it wkr (fun j H' => Same H26 H' ∧ ∃ us : List (Addr × WC), H' D = some (.lst (us.map vZ)) ∧ AtZ H' us ∧ us.map (·.2) = (List.range j).map fun k => (wd, k))
        ⟨Same.new hD, [], upd_same, fun _ h => (nomatch h), rfl⟩ (fun _ _ _ _ => trivial) ?_ ?_
      · rintro j x H27 H28 hj ⟨s27, us, e27, au, eu⟩ ⟨rfl, rfl⟩
        refine ⟨rfl, yesT ⟨_, rfl, _, rfl, by show 2 ≤ sizeLine; decide, ?_⟩⟩
        walk_at "n29"
        have e29' : H29 l29 = some (.tup [.str (S wd), .int (j : Int)]) := e29
        have ul : us.length = j := by
          have := congrArg List.length eu
          rwa [List.length_map, List.length_map, List.length_range] at this
        refine ⟨_, S29 _ _ e27, by rw [List.length_map]; omega, (s27.trans S29).own hD, us ++ [(l29, (wd, j))], ?_, fun q hq => ?_, ?_⟩
        · rw [upd_same]
          show some (HO.lst (us.map vZ ++ [(l29, (wd, j))].map vZ)) = _
          rw [← List.map_append]
        · have hq9 : H29 q.1 = some (.tup [.str (S q.2.1), .int (q.2.2 : Int)]) := by
            rcases List.mem_append.mp hq with h | h
            · exact S29 _ _ (au q h)
            · rw [List.mem_singleton.mp h]; exact e29'
          rw [upd_ne (ne_of hq9 (S29 _ _ e27) fun e => by cases e)]
          exact hq9
        · rw [List.map_append, eu, List.range_succ, List.map_append]
          rfl
      rintro H27 ⟨s27, us, e27, au, eu⟩
      have ul : us.length = s := by
        have := congrArg List.length eu
        rwa [List.length_map, List.length_map, List.length_range] at this
      refine ⟨D, 2, _, rfl, rfl, e27, by decide, by decide, by rw [List.length_map, ul]; show s * 2 ≤ _; omega, ?_⟩
      walk_at "n28"
      have e28' : H28 l28 = some (.lst ((us ++ us).map vZ)) := by
        rw [e28, List.map_append]
        show some (HO.lst ([us.map vZ, us.map vZ].flatten)) = _
        simp
      have e26' := S28 _ _ (s27 _ _ e26)
      refine ⟨l26, l28, _, _, rfl, rfl, e26', e28', by rw [List.length_append, List.length_map, List.length_append, ul]; show 8 + 6 + (s + s) ≤ _; omega, ?_⟩
      walk_at "n30"
      have T30 := S30
      have T28 := S28.trans T30
      have T27 := s27.trans T28
      have T26 := S26.trans T27
      have T25 := S25.trans T26
      have T24 := S24.trans T25
      have T23 := S23.trans T24
      have T22 := S22.trans T23
      have T21 := S21.trans T22
      have T20 := S20.trans T21
      have T19 := S19.trans T20
      have T18 := S18.trans T19
      have T17 := S17.trans T18
      have T16 := S16.trans T17
      have T15 := S15.trans T16
      have T14 := S14.trans T15
      have T13 := S13.trans T14
      have T12 := S12.trans T13
      have P30 := P11.same T12
      have np17 := ((P11.same ((((S12.trans S13).trans S14).trans S15).trans S16)).ne_free n17).1
      have np30 := ((P11.same ((((((((((((((((S12.trans S13).trans S14).trans S15).trans S16).trans S17).trans S18).trans S19).trans S20).trans S21).trans S22).trans S23).trans S24).trans S25).trans S26).trans s27).trans S28)).ne_free n30).1
      have litS : ∀ l : List Nat, l.length ≤ 10 → (∀ c ∈ l, c < 128) → Lite 20 19 (.str (S l)) := fun l h1 h2 => lite_str (by omega) fun c hc => by have := h2 c hc; omega
      have litw : Lite 20 19 (.str (S wd)) := litS wd (by omega) hwtc
      have litc : Lite 20 19 (.int (ct : Int)) := lite_of (small_int ct hct)
      obtain ⟨oddl, OD, e30', dO, gO, lO, lO2⟩ : ∃ (oddl : List V) (OD : List PyData), H30 l30 = some (.lst oddl) ∧ RowsD K (off p H30) oddl OD ∧ (∀ d ∈ OD, OkRow d) ∧ 0 < oddl.length ∧ oddl.length < 1000 := by
        refine ⟨_, ([.tuple [.str (S wd), .int (s : Int)], .tuple [.str (S wd), .int (-1)], .tuple [.str (S wd), .bool true], .tuple [.str (S wd), .str (toString (ct : Int))], .tuple [.str (S wd)], .list [.str (S wd), .int (ct : Int)], .str (S wd), .none] ++
          [.tuple [.str (S (wd ++ [97])), .int (ct : Int)], .tuple [.str (S (wd.drop 1)), .int (ct : Int)], .tuple [.str (S (List.replicate n [101]).flatten), .int (ct : Int)], .tuple [.none, .int (ct : Int)], .tuple [.int (ct : Int), .str (S wd)], .tuple [.str (S wd), .int (ct : Int), .int 0]]) ++ ((us ++ us).map fun z => dP z.2), e30, ?_, fun d hd => ?_, by show 0 < _ + 1; omega, by simp only [List.length_append, List.length_map, ul]; show 8 + 6 + (s + s) < _; omega⟩
        · refine RowsD.app (RowsD.app ?_ ?_) (rowsZ (P30.offZ ((au.same T28).app (au.same T28))))
          · exact .con (row_tup (P30.offTup (T13 _ _ e12)) (.cons (.str _) (.cons (.int _) .nil))) (.con (row_tup (P30.offTup (T14 _ _ e13)) (.cons (.str _) (.cons (.int _) .nil))) (.con (row_tup (P30.offTup (T15 _ _ e14)) (.cons (.str _) (.cons (.bl _) .nil)))
              (.con (row_tup (P30.offTup (T16 _ _ e15)) (.cons (.str _) (.cons (.str _) .nil))) (.con (row_tup (P30.offTup (T17 _ _ e16)) (.cons (.str _) .nil)) (.con (row_no (.lst (SqL.of (off_at np17 (T18 _ _ e17))) (.cons (.str _) (.cons (.int _) .nil))) fun _ e => nomatch e)
              (.con (row_no (.str _) fun _ e => nomatch e) (.con (row_no .non fun _ e => nomatch e) .nil)))))))
          · exact .con (row_tup (P30.offTup (T20 _ _ e19)) (.cons (.str _) (.cons (.int _) .nil))) (.con (row_tup (P30.offTup (T21 _ _ e20)) (.cons (.str _) (.cons (.int _) .nil))) (.con (row_tup (P30.offTup (T22 _ _ e21)) (.cons (.str _) (.cons (.int _) .nil)))
              (.con (row_tup (P30.offTup (T23 _ _ e22)) (.cons .non (.cons (.int _) .nil))) (.con (row_tup (P30.offTup (T24 _ _ e23)) (.cons (.int _) (.cons (.str _) .nil))) (.con (row_tup (P30.offTup (T25 _ _ e24)) (.cons (.str _) (.cons (.int _) (.cons (.int _) .nil)))) .nil)))))
        · have two : ∀ x y : PyData, Lite 20 19 x → Lite 20 19 y → OkRow (.tuple [x, y]) := fun x y h1 h2 => okRow_tup (fun g hg => by
            simp only [List.mem_cons, List.not_mem_nil, or_false] at hg
            rcases hg with rfl | rfl
            · exact h1
            · exact h2) (by show 2 ≤ 3; decide)
          have okn : ∀ d, liteB 20 19 d = true → Lite 20 19 d := fun d h => lite_of h
          rcases List.mem_append.mp hd with h | h
          · rcases List.mem_append.mp h with h | h
            · simp only [List.mem_cons, List.not_mem_nil, or_false] at h
              rcases h with rfl | rfl | rfl | rfl | rfl | rfl | rfl | rfl
              · exact two _ _ litw (lite_of (small_int s (by omega)))
              · exact two _ _ litw (okn _ (by decide))
              · exact two _ _ litw (okn _ (by decide))
              · exact two _ _ litw (lite_of (small_txt ct hct))
              · exact okRow_tup (fun g hg => by rw [List.mem_singleton.mp hg]; exact litw) (by show 1 ≤ 3; decide)
              · refine okRow_of (lite_lst (D := 20) (k := 19) (m := 60) (fun g hg => ?_) (by show 2 * 20 ≤ 60; decide)) fun _ e => nomatch e
                simp only [List.mem_cons, List.not_mem_nil, or_false] at hg
                rcases hg with rfl | rfl
                · exact litw
                · exact litc
              · exact okRow_of (litw.mono (by decide) (by decide)) fun _ e => nomatch e
              · exact okRow_of (lite_of (by decide)) fun _ e => nomatch e
            · simp only [List.mem_cons, List.not_mem_nil, or_false] at h
              rcases h with rfl | rfl | rfl | rfl | rfl | rfl
              · exact two _ _ (litS _ (by rw [List.length_append]; show _ + 1 ≤ _; omega) fun c hc => (List.mem_append.mp hc).elim (hwtc c) fun h => by rw [List.mem_singleton.mp h]; decide) litc
              · exact two _ _ (litS _ (by rw [List.length_drop]; omega) fun c hc => hwtc c (List.mem_of_mem_drop hc)) litc
              · exact two _ _ (by rw [flat_rep]; exact litS _ (by rw [List.length_replicate]; omega) fun c hc => by rw [List.eq_of_mem_replicate hc]; decide) litc
              · exact two _ _ (okn _ (by decide)) litc
              · exact two _ _ litc litw
              · refine okRow_tup (fun g hg => ?_) (by show 3 ≤ 3; decide)
                simp only [List.mem_cons, List.not_mem_nil, or_false] at hg
                rcases hg with rfl | rfl | rfl
                · exact litw
                · exact litc
                · exact okn _ (by decide)
          · obtain ⟨z, hz, rfl⟩ := List.mem_map.mp h
            have hz2 : z ∈ us := (List.mem_append.mp hz).elim id id
            have h2 : z.2 ∈ us.map (·.2) := List.mem_map_of_mem hz2
            rw [eu] at h2
            obtain ⟨k2, hk2, e⟩ := List.mem_map.mp h2
            rw [← e]
            exact two _ _ litw (lite_of (small_int k2 (by have := List.mem_range.mp hk2; omega)))
      refine ⟨p, c, _, .ref l30, rfl, P30, by omega, .inl ⟨l30, _, rfl, SqL.of e30', np30, lO, by omega, fun r ov H31 hv B31 P31 => ?_⟩⟩
      obtain ⟨od, hod1, hod2, hod3⟩ := dO.at hv
      have god := gO od (List.mem_of_getElem? hod1)
      have soff : Same (off p H30) (off p H31) := B31.off
      have hodp : Dp K (off p H31) ov od := dp_same soff _ _ hod2
      have hodr : RwAt (off p H31) ov od := hod3.same soff
      have eg31 := B31 _ _ nga2.1 (T12 _ _ eg11)
      have hT31 := P30.tup B31 (same_tup T12 hT11)
      have az31 : AtZ H31 zs := fun z hz => by
        obtain ⟨ns, i, w, ⟨a1, _⟩, _⟩ := P30
        have h := T12 _ _ (az11 z hz)
        exact B31 _ _ (ne_of h a1 fun e => by cases e) h
      have P31 := P31.mono (show _ ≤ i * 1000 + 200 by omega)
      clear hv e30 e30' dO gO lO lO2 oddl OD hod1 hod2 hod3 soff B31 P30 T12 T13 T14 T15 T16 T17 T18 T19 T20 T21 T22 T23 T24 T25 T26 T27 T28 T30 np17 np30 litS litw litc
      clear S12 S13 S14 S15 S16 S17 S18 S19 S20 S21 S22 S23 S24 S25 S26 s27 S28 S30 e12 e13 e14 e15 e16 e17 e18 e18' e19 e20 e21 e22 e23 e24 e25 e26 e26' e27 e28 e28' n12 n13 n14 n15 n16 n17 n18 n19 n20 n21 n22 n23 n24 n25 n26 n28 n30 hD au eu ul us mE
      clear eg11 az11 hT11 P11
      -- some
      have gcut : ∀ lo hi, ∀ z ∈ cutL zs lo hi, z ∈ zs := fun lo hi z hz => by unfold cutL at hz; exact List.mem_of_mem_drop (List.mem_of_mem_take hz)
      have gcl : ∀ lo hi, (cutL zs lo hi).length ≤ zs.length := fun lo hi => by unfold cutL; rw [List.length_take, List.length_drop]; omega
      have vcl : ∀ lo hi, (cutV (zs.map vZ) lo hi).length ≤ zs.length := fun lo hi => by rw [cutV_L, cutL_map, List.length_map]; exact gcl lo hi
      have gml : (zs.map vZ).length = zs.length := List.length_map ..
      have bnd : ∀ N, N ≤ 2 * (W.length ^ reachL n s * (2 * s) + 1) + 140 → N * (n + 1 - reachL n s) ≤ 4000 := fun N h => Nat.le_trans (Nat.mul_le_mul_right _ h) fn1
      have okz : ∀ us : List (Addr × WC), (∀ z ∈ us, PIn W s n z.2) → ∀ d ∈ us.map (fun z => dP z.2), OkRow d := fun us h d hd => by
        obtain ⟨z, hz, rfl⟩ := List.mem_map.mp hd
        exact okRow_dP hw4 hs4 (by omega) (h z hz)
      have vl : ∀ us : List (Addr × WC), (∀ z ∈ us, PIn W s n z.2) → us.length ≤ 2 * zs.length + 138 → ValC n s (.list (us.map fun z => dP z.2)) := fun us h1 h2 =>
        valC_rows (okz us h1) (by rw [List.length_map]; omega) (by rw [List.length_map]; exact bnd _ (by omega))
      have vlo : ∀ us vs : List (Addr × WC), (∀ z ∈ us, PIn W s n z.2) → (∀ z ∈ vs, PIn W s n z.2) → us.length + vs.length ≤ 2 * zs.length → ValC n s (.list ((us.map fun z => dP z.2) ++ [od] ++ vs.map fun z => dP z.2)) := fun us vs h1 h2 h3 =>
        valC_rows (fun d hd => by
          rcases List.mem_append.mp hd with h | h
          · rcases List.mem_append.mp h with h | h
            · exact okz us h1 d h
            · rw [List.mem_singleton.mp h]; exact god
          · exact okz vs h2 d h) (by rw [List.length_append, List.length_append, List.length_map, List.length_map]; show _ + 1 + _ ≤ _; omega) (by
          rw [List.length_append, List.length_append, List.length_map, List.length_map]
          show (us.length + 1 + vs.length) * _ ≤ _
          exact bnd _ (by omega))
      refine ⟨_, rfl, _, rfl, _, rfl, _, ga, _, rfl, by decide, rfl, SqL.of eg31, ?_⟩
      walk_at "n41"
      have g41 := S41 _ _ eg31
      refine ⟨_, rfl, _, rfl, _, rfl, _, rfl, ga, _, rfl, SqL.of g41, ?_⟩
      walk_at "n42"
      have g42 := S42 _ _ g41
      refine ⟨ga, l42, _, _, rfl, rfl, g42, e42, by have := vcl (some (at_ : Int)) none; omega, ?_⟩
      walk_at "n43"
      have g43 := S43 _ _ g42
      refine ⟨_, rfl, _, rfl, _, rfl, ga, _, rfl, SqL.of g43, ?_⟩
      walk_at "n44"
      have g44 := S44 _ _ g43
      refine ⟨_, rfl, _, rfl, _, _, rfl, rfl, _, rfl, ga, _, rfl, SqL.of g44, ?_⟩
      walk_at "n45"
      have g45 := S45 _ _ g44
      refine ⟨l44, l45, _, _, rfl, rfl, S45 _ _ e44, e45, by have := vcl none (some (at_ : Int)); have := vcl (some ((at_ : Int) + 1)) none; omega, ?_⟩
      walk_at "n46"
      have g46 := S46 _ _ g45
      refine ⟨_, rfl, _, rfl, by show 1 ≤ sizeLine; decide, ?_⟩
      walk_at "n47"
      have g47 := S47 _ _ g46
      refine ⟨ga, l47, _, _, rfl, rfl, g47, e47, by rw [gml]; show _ + 1 ≤ _; omega, ?_⟩
      walk_at "n48"
      have g48 := S48 _ _ g47
      refine ⟨_, rfl, ga, _, rfl, .inl ⟨SqL.of g48, ?_⟩⟩
      walk_at "n49"
      have g49 := S49 _ _ g48
      refine ⟨by show 0 ≤ sizeLine; decide, ?_⟩
      walk_at "n50"
      have g50 := S50 _ _ g49
      refine ⟨by show 8 ≤ sizeLine; decide, ?_⟩
      intro l51 n51
      have P41 := P31.same S41
      have P42 := P41.same S42
      have P43 := P42.same S43
      have P44 := P43.same S44
      have P45 := P44.same S45
      have P46 := P45.same S46
      have P47 := P46.same S47
      have P48 := P47.same S48
      have P49 := P48.same S49
      have P50 := P49.same S50
      have T50 : Same H50 H50 := Same.refl _
      have T49 := S50.trans T50
      have T48 := S49.trans T49
      have T47 := S48.trans T48
      have T46 := S47.trans T47
      have T45 := S46.trans T46
      have T44 := S45.trans T45
      have T43 := S44.trans T44
      have T42 := S43.trans T43
      have T41 := S42.trans T42
      have T31 := S41.trans T41
      have BO : Same (off p H31) (off p H50) := But.off (p := p) fun b o _ e => T31 _ _ e
      have az50 := az31.same T31
      have o50 : RowsD K (off p H50) [ov] [od] := .one ⟨dp_same BO _ _ hodp, hodr.same BO⟩
      have sub : ∀ us : List (Addr × WC), (∀ z ∈ us, z ∈ zs) → RowsD K (off p H50) (us.map vZ) (us.map fun z => dP z.2) := fun us h => rowsZ (P50.offZ fun z hz => az50 z (h z hz))
      have gsub : ∀ us : List (Addr × WC), (∀ z ∈ us, z ∈ zs) → ∀ z ∈ us, PIn W s n z.2 := fun us h z hz => gin z (h z hz)
      obtain ⟨xs8, ds8, exs8, d8, v8, l8⟩ : ∃ (xs8 : List V) (ds8 : List PyData), [V.ref ga, V.ref l41, V.ref l43, V.ref l46, V.ref l48, V.ref l49, V.ref l50, V.non] = xs8 ∧ CVAll K (off p H50) xs8 ds8 ∧ (∀ d ∈ ds8, ValC n s d) ∧ xs8.length = 8 := by
        have e41' : H50 l41 = some (.lst (zs.reverse.map vZ)) := by rw [T41 _ _ e41, pick_rev, ← List.map_reverse]
        have e43' : H50 l43 = some (.lst ((zs ++ cutL zs (some (at_ : Int)) none).map vZ)) := by rw [T43 _ _ e43, cutV_L, cutL_map, ← List.map_append]
        have e46' : H50 l46 = some (.lst ((cutL zs none (some (at_ : Int)) ++ cutL zs (some ((at_ : Int) + 1)) none).map vZ)) := by rw [T46 _ _ e46, cutV_L, cutV_L, cutL_map, cutL_map, ← List.map_append]
        have np41 := (P31.ne_free n41).1
        have np43 := (P42.ne_free n43).1
        have np46 := (P45.ne_free n46).1
        have np48 := (P47.ne_free n48).1
        have np50 := (P49.ne_free n50).1
        have q1 : ∀ z ∈ zs.reverse, z ∈ zs := fun z hz => List.mem_reverse.mp hz
        have q2 : ∀ z ∈ zs ++ cutL zs (some (at_ : Int)) none, z ∈ zs := fun z hz => (List.mem_append.mp hz).elim id (gcut _ _ z)
        have q3 : ∀ z ∈ cutL zs none (some (at_ : Int)) ++ cutL zs (some ((at_ : Int) + 1)) none, z ∈ zs := fun z hz => (List.mem_append.mp hz).elim (gcut _ _ z) (gcut _ _ z)
        refine ⟨_, [.list (zs.map fun z => dP z.2), .list (zs.reverse.map fun z => dP z.2), .list ((zs ++ cutL zs (some (at_ : Int)) none).map fun z => dP z.2), .list ((cutL zs none (some (at_ : Int)) ++ cutL zs (some ((at_ : Int) + 1)) none).map fun z => dP z.2), .list ((zs.map fun z => dP z.2) ++ [od]), .tuple (zs.map fun z => dP z.2), .list [], .none], rfl,
          .cons (cv_rows (off_at nga2.1 g50) (sub zs fun _ h => h)) (.cons (cv_rows (off_at np41 e41') (sub _ q1)) (.cons (cv_rows (off_at np43 e43') (sub _ q2)) (.cons (cv_rows (off_at np46 e46') (sub _ q3)) (.cons (cv_rows (off_at np48 (T48 _ _ e48)) ((sub zs fun _ h => h).app o50))
            (.cons (cv_of (.tup (SqT.of (P50.offTup (T49 _ _ e49))) (sub zs fun _ h => h).dp) fun _ e => nomatch e) (.cons (cv_rows (off_at np50 e50) .nil) (.cons (cv_of .non fun _ e => nomatch e) .nil))))))), fun d hd => ?_, rfl⟩
        simp only [List.mem_cons, List.not_mem_nil, or_false] at hd
        rcases hd with rfl | rfl | rfl | rfl | rfl | rfl | rfl | rfl
        · exact vl zs gin (by omega)
        · exact vl _ (gsub _ q1) (by rw [List.length_reverse]; omega)
        · exact vl _ (gsub _ q2) (by have := gcl (some (at_ : Int)) none; rw [List.length_append]; omega)
        · exact vl _ (gsub _ q3) (by have := gcl none (some (at_ : Int)); have := gcl (some ((at_ : Int) + 1)) none; rw [List.length_append]; omega)
        · have h := vlo zs [] gin (fun _ h => nomatch h) (by show _ + 0 ≤ _; omega)
          rwa [List.map_nil, List.append_nil] at h
        · exact valC_of ((lite_tup (D := 21) (k := 60) (m := 100000) (fun d hd => (okz zs gin d hd).1) (by rw [List.length_map]; omega)).mono (by decide) (Nat.le_refl _)) fun _ e => nomatch e
        · exact vl [] (fun _ h => nomatch h) (by show 0 ≤ _; omega)
        · exact valC_of (lite_of (by decide)) fun _ e => nomatch e
      rw [exs8]
      generalize hL : upd H50 l51 _ = H51
      obtain ⟨S51, e51⟩ := nw hL n51
      have hT51 := same_tup (T31.trans S51) hT31
      have g51 := S51 _ _ g50
      have P51 := P50.same S51
      clear hL exs8 T31 T41 T42 T43 T44 T45 T46 T47 T48 T49 T50 P41 P42 P43 P44 P45 P46 P47 P48 P49 S41 S42 S43 S44 S45 S46 S47 S48 S49 S50 e41 e42 e43 e44 e45 e46 e47 e48 e49 e50 g41 g42 g43 g44 g45 g46 g47 g48 g49 n41 n42 n43 n44 n45 n46 n47 n48 n49 n50 hT31 P31 hodp hodr eg31 BO az31
      -- three more
      dsimp only [List.set]
      refine ⟨_, rfl, _, rfl, _, rfl, _, rfl, ga, _, rfl, SqL.of g51, ?_⟩
      walk_at "n52"
      refine ⟨_, rfl, by show 1 ≤ sizeLine; decide, ?_⟩
      walk_at "n53"
      refine ⟨l52, l53, _, _, rfl, rfl, S53 _ _ e52, e53, by have := vcl none (some (at_ : Int)); show _ + 1 ≤ _; omega, ?_⟩
      walk_at "n54"
      have g54 := S54 _ _ (S53 _ _ (S52 _ _ g51))
      refine ⟨_, rfl, _, rfl, _, _, rfl, rfl, _, rfl, ga, _, rfl, SqL.of g54, ?_⟩
      walk_at "n55"
      refine ⟨l54, l55, _, _, rfl, rfl, S55 _ _ e54, e55, by have := vcl none (some (at_ : Int)); have := vcl (some ((at_ : Int) + 1)) none; rw [List.length_append]; show _ + 1 + _ ≤ _; omega, ?_⟩
      walk_at "n56"
      have U56 := (((S52.trans S53).trans S54).trans S55).trans S56
      refine ⟨_, rfl, _, rfl, ra, W, s, n, rfl, same_tup U56 hT51, hW, by omega, fun i3 H57 S57 h1 h2 => ?_⟩
      rw [stL_of h1 h2]
      refine ⟨by show 2 ≤ sizeLine; decide, ?_⟩
      walk_at "n58"
      refine ⟨by show 1 ≤ sizeLine; decide, ?_⟩
      walk_at "n59"
      have U59 := ((U56.trans S57).trans S58).trans S59
      have g59 := U59 _ _ g51
      have az59 := (az50.same S51).same U59
      refine ⟨_, rfl, ga, rfl, ⟨_, SqL.of g59⟩, fun D hD => ?_⟩
      have wkz : Walk (Itl K ga) zs.length (fun H => SqL K H ga (zs.map vZ)) (YAt (zs.map vZ)) := by
        have z := walk_list (K := K) (a := ga) (xs := zs.map vZ)
        rwa [List.length_map] at z
      refine lc_map zs (fun z => vW z.2.1) wkz hD (by omega) (fun H' s => SqL.of (s _ _ g59)) ?_ ?_
      · rintro j z x H60 H61 R hz s60 ⟨rfl, hx⟩ hR
        rw [List.getElem?_map, hz] at hx
        obtain rfl := Option.some.inj hx
        refine ⟨z.1, _, rfl, SqT.of (s60 _ _ (az59 z (List.mem_of_getElem? hz))), rfl, _, _, rfl, _, _, rfl, rfl, rfl, _, rfl, hR _ (Same.refl _)⟩
      intro H60 S60 e60
      have e60' : H60 D = some (.lst ((zs.map (·.2.1)).map vW)) := by rw [List.map_map]; exact e60
      refine ⟨by show 3 ≤ sizeLine; decide, ?_⟩
      walk_at "n61"
      have U61 := (U59.trans S60).trans S61
      refine ⟨l51, l61, _, _, rfl, rfl, U61 _ _ e51, e61, by rw [l8]; show 8 + 3 ≤ sizeLine; decide, ?_⟩
      intro l62 n62
      generalize hL : upd H61 l62 _ = H62
      obtain ⟨S62, e62⟩ := nw hL n62
      clear hL
      have g62 := S62 _ _ (S61 _ _ (S60 _ _ g59))
      refine ⟨_, rfl, .inl ⟨rfl, _, SqL.of e62⟩, _, rfl, _, rfl, ga, _, rfl, SqL.of g62, ?_⟩
      walk_at "n63"
      refine ⟨l62, _, _, rfl, rfl, S63 _ _ e62, by rw [List.length_append, l8]; show 8 + 3 < sizeLine; decide, ?_⟩
      generalize hA : upd H63 l62 _ = H64
      have S64 : Same H61 H64 := by rw [← hA]; exact (S62.trans S63).own n62
      obtain ⟨B64, f64⟩ := pt hA
      clear hA
      have P61 := P51.same U61
      have P64 := P61.same S64
      have np62 := (P61.ne_free n62).1
      have BO : Same (off p H50) (off p H64) := But.off (p := p) fun b o _ e => S64 _ _ (U61 _ _ (S51 _ _ e))
      have az64 := az59.same ((S60.trans S61).trans S64)
      have o64 := o50.same BO
      have sub : ∀ us : List (Addr × WC), (∀ z ∈ us, z ∈ zs) → RowsD K (off p H64) (us.map vZ) (us.map fun z => dP z.2) := fun us h => rowsZ (P64.offZ fun z hz => az64 z (h z hz))
      have st1 : PIn W s n (stL W s n, 0) := ⟨st0.1, st0.2, by show 0 < s; omega⟩
      obtain ⟨xs, ds, V64, dv, vv, xl⟩ : ∃ (xs : List V) (ds : List PyData), H64 l62 = some (.lst xs) ∧ CVAll K (off p H64) xs ds ∧ (∀ d ∈ ds, ValC n s d) ∧ xs.length = 12 := by
        have P55 := P51.same (((S52.trans S53).trans S54).trans S55)
        have P58 := P51.same ((U56.trans S57).trans S58)
        have P59 := P51.same U59
        have np56 := (P55.ne_free n56).1
        have np59 := (P58.ne_free n59).1
        have npD := (P59.ne_free hD).1
        have P62 := P61.same S62
        have np63 := (P62.ne_free n63).1
        have T61 := S64
        have T60 := S61.trans T61
        have T59 := S60.trans T60
        have T58 := S59.trans T59
        have T57 := S58.trans T58
        have T56 := S57.trans T57
        have e56' : H64 l56 = some (.lst ((cutL zs none (some (at_ : Int))).map vZ ++ [ov] ++ (cutL zs (some ((at_ : Int) + 1)) none).map vZ)) := by rw [T56 _ _ e56, cutV_L, cutV_L, cutL_map, cutL_map]
        have e58' : AtZ H64 [(l58, (stL W s n, 0))] := fun z hz => by rw [List.mem_singleton.mp hz]; exact T58 _ _ e58
        have e63' : H64 l63 = some (.lst ((cutL zs none (some 1)).map vZ)) := by
          rw [B64 _ _ (ne_of_none e62 n63).symm e63, cutV_L, cutL_map]
        refine ⟨_, ds8 ++ [.list (((cutL zs none (some (at_ : Int))).map fun z => dP z.2) ++ [od] ++ (cutL zs (some ((at_ : Int) + 1)) none).map fun z => dP z.2), .list ([(l58, (stL W s n, 0))].map fun z => dP z.2), .list ((zs.map (·.2.1)).map dW)] ++ [.list ((cutL zs none (some 1)).map fun z => dP z.2)], f64,
          (CVAll.app ((d8.same BO).app (.cons (cv_rows (off_at np56 e56') (((sub _ (gcut _ _)).app o64).app (sub _ (gcut _ _)))) (.cons (cv_rows (off_at np59 (T59 _ _ e59)) (rowsZ (P64.offZ e58'))) (.cons (cv_rows (off_at npD (T60 _ _ e60')) (rowsW_d _)) .nil)))) (.cons (cv_rows (off_at np63 e63') (sub _ (gcut _ _))) .nil)), fun d hd => ?_, by rw [List.length_append, List.length_append, l8]; rfl⟩
        rcases List.mem_append.mp hd with h | h
        · rcases List.mem_append.mp h with h | h
          · exact v8 d h
          · simp only [List.mem_cons, List.not_mem_nil, or_false] at h
            rcases h with rfl | rfl | rfl
            · exact vlo _ _ (gsub _ (gcut _ _)) (gsub _ (gcut _ _)) (by have := gcl none (some (at_ : Int)); have := gcl (some ((at_ : Int) + 1)) none; omega)
            · exact vl [(l58, (stL W s n, 0))] (fun z hz => by rw [List.mem_singleton.mp hz]; exact st1) (by show 1 ≤ _; omega)
            · refine valC_rows (fun d hd => ?_) (by rw [List.length_map, List.length_map]; omega) (by rw [List.length_map, List.length_map]; exact bnd _ (by omega))
              obtain ⟨w, hw, rfl⟩ := List.mem_map.mp hd
              obtain ⟨z, hz, rfl⟩ := List.mem_map.mp hw
              exact okRow_of (lite_str (by have := (gin z hz).1; omega) (codeP hw4 (gin z hz))) fun _ e => nomatch e
        · rw [List.mem_singleton.mp h]
          exact vl _ (gsub _ (gcut _ _)) (by have := gcl none (some 1); omega)
      have g64 := S64 _ _ (S61 _ _ (S60 _ _ g59))
      have hT64 := same_tup (U61.trans S64) hT51
      clear S51 S52 S53 S54 S55 S56 S57 S58 S59 S60 S61 S62 S63 S64 U56 U59 U61 e51 e52 e53 e54 e55 e56 e58 e59 e60 e60' e61 e62 e63 f64 B64 n51 n52 n53 n54 n55 n56 n58 n59 n61 n62 n63 hD g50 g51 g54 g59 g62 hT51 P51 P61 d8 v8 l8 az50 az59 o50 o64 sub BO h1 h2 xs8 ds8 P50
      refine ⟨fun σ' H' => ∃ (b : Addr) (xs : List V) (ds : List PyData), σ' = [some (.ref a), some (.ref p), some (vN i), some (.ref ra), some (.int (n : Int)), some (.ref ga), some (.int (s : Int)), some (.int (at_ : Int)), some (.str (S wt)), some (.str (S wd)), some (.int (ct : Int)), some ov, some (.ref b), y13, y14, y15, none, none, none, none] ∧ H' b = some (.lst xs) ∧ CVAll K H' xs ds ∧ (∀ d ∈ ds, ValC n s d) ∧ SqT K H' ra (W.map vW) ∧ Pen H' p c (i * 1000 + 400), ?_, ?_⟩
      · refine ⟨_, rfl, S wt, rfl, by rw [len_S]; omega, _, rfl, rfl, _, rfl, ?_⟩
        rw [len_S]
        by_cases hwn : wt.length = n
        · rw [show decide (V.int (wt.length : Int) = V.int (n : Int)) = true from decide_eq_true (by rw [hwn])]
          refine iteT ?_
          refine ⟨_, rfl, _, rfl, _, rfl, _, rfl, _, rfl, _, rfl, _, rfl, p, c, _, s, rfl, P64, by omega, by omega, by omega, fun ct2 H65 hct2 B65 P65 => ⟨by show 2 ≤ sizeLine; decide, ?_⟩⟩
          walk_at "n66"
          refine ⟨by show 1 ≤ sizeLine; decide, ?_⟩
          walk_at "n67"
          have g65 := B65 _ _ nga2.1 g64
          have hT65 := P64.tup B65 hT64
          have v65 := B65 _ _ np62 V64
          have az65 : AtZ H65 zs := fun z hz => by
            obtain ⟨ns, i, w, ⟨a1, _⟩, _⟩ := P64
            exact B65 _ _ (ne_of (az64 z hz) a1 fun e => by cases e) (az64 z hz)
          have d65 : CVAll K H65 xs ds := (dv.same B65.off).same (off_same p H65)
          refine ⟨ga, l67, _, _, rfl, rfl, S67 _ _ (S66 _ _ g65), e67, by rw [gml]; show _ + 1 ≤ _; omega, ?_⟩
          walk_at "n68"
          have U68 := (S66.trans S67).trans S68
          have e68' : H68 l68 = some (.lst ((zs ++ [(l66, (wt, ct2))]).map vZ)) := by rw [e68, List.map_append]; rfl
          have w1 : PIn W s n (wt, ct2) := ⟨hwn, hwc, hct2⟩
          have w0 : PIn W s n (wt, 0) := ⟨hwn, hwc, by show 0 < s; omega⟩
          refine ⟨ra, l68, W, s, n, zs ++ [(l66, (wt, ct2))], rfl, same_tup U68 hT65, hW, by omega, SqL.of e68', (az65.same U68).app (fun z hz => by rw [List.mem_singleton.mp hz]; exact S68 _ _ (S67 _ _ e66)), by rw [List.length_append]; show _ + 1 ≤ _; omega, fun z hz => (List.mem_append.mp hz).elim (gin z) fun h => by rw [List.mem_singleton.mp h]; exact w1, fun q1 ws1 H69 nq1 S69 eq1 aq1 hl1 hin1 => ⟨by show 1 ≤ sizeLine; decide, ?_⟩⟩
          walk_at "n70"
          have U70 := (U68.trans S69).trans S70
          refine ⟨l62, l70, _, _, rfl, rfl, U70 _ _ v65, e70, by rw [xl]; show 12 + 1 ≤ sizeLine; decide, ?_⟩
          intro l71 n71
          generalize hL : upd H70 l71 _ = H71
          obtain ⟨S71, e71⟩ := nw hL n71
          clear hL
          refine ⟨_, rfl, .inl ⟨rfl, _, SqL.of e71⟩, _, rfl, _, rfl, _, rfl, by show 2 ≤ sizeLine; decide, ?_⟩
          walk_at "n72"
          have U72 := (U70.trans S71).trans S72
          refine ⟨_, rfl, _, rfl, ra, W, s, n, rfl, same_tup U72 hT65, hW, by omega, fun i4 H73 S73 h1 h2 => ?_⟩
          rw [stL_of h1 h2]
          refine ⟨by show 2 ≤ sizeLine; decide, ?_⟩
          walk_at "n74"
          refine ⟨by show 2 ≤ sizeLine; decide, ?_⟩
          walk_at "n75"
          have U75 := ((U72.trans S73).trans S74).trans S75
          refine ⟨ra, l75, W, s, n, [(l72, (wt, 0)), (l74, (stL W s n, 0))], rfl, same_tup U75 hT65, hW, by omega, SqL.of e75, (fun z hz => ?_), by show 2 ≤ 5000; decide, (fun z hz => ?_), fun q2 ws2 H76 nq2 S76 eq2 aq2 hl2 hin2 => ?_⟩
          · simp only [List.mem_cons, List.not_mem_nil, or_false] at hz
            rcases hz with rfl | rfl
            · exact S75 _ _ (S74 _ _ (S73 _ _ e72))
            · exact S75 _ _ e74
          · simp only [List.mem_cons, List.not_mem_nil, or_false] at hz
            rcases hz with rfl | rfl
            · exact w0
            · exact st1
          dsimp only [tNoPart]
          refine ⟨_, rfl, q2, _, rfl, SqL.of eq2, ?_⟩
          walk_at "n77"
          have U7177 := ((((S72.trans S73).trans S74).trans S75).trans S76).trans S77
          refine ⟨l71, _, _, rfl, rfl, U7177 _ _ e71, by rw [List.length_append, xl]; show 12 + 1 < sizeLine; decide, ?_⟩
          generalize hA : upd H77 l71 _ = H78
          have S78 : Same H70 H78 := by rw [← hA]; exact (S71.trans U7177).own n71
          obtain ⟨B78, f78⟩ := pt hA
          clear hA
          have n7177 : l77 ≠ l71 := (ne_of_none (((((S72.trans S73).trans S74).trans S75).trans S76) _ _ e71) n77).symm
          have e77' : H78 l77 = some (.lst ((cutL ws2 (some 1) none).map vZ)) := by rw [B78 _ _ n7177 e77, cutV_L, cutL_map]
          have wcut : ∀ z ∈ cutL ws2 (some 1) none, z ∈ ws2 := fun z hz => by unfold cutL at hz; exact List.mem_of_mem_drop (List.mem_of_mem_take hz)
          have wcl : (cutL ws2 (some 1) none).length ≤ ws2.length := by unfold cutL; rw [List.length_take, List.length_drop]; omega
          have aq2' : AtZ H78 ws2 := fun z hz => B78 _ _ (ne_of (S77 _ _ (aq2 z hz)) (U7177 _ _ e71) fun e => by cases e) (S77 _ _ (aq2 z hz))
          rw [List.length_append, List.length_singleton] at hl1
          have hl2 : ws2.length ≤ 2 + 130 := hl2
          have U78 := U70.trans S78
          refine ⟨l71, _, ds ++ [.list (ws1.map fun z => dP z.2)] ++ [.list ((cutL ws2 (some 1) none).map fun z => dP z.2)], rfl, f78, ((d65.same U78).app (.cons (cv_rows (S78 _ _ (S70 _ _ eq1)) (rowsZ ((aq1.same S70).same S78))) .nil)).app (.cons (cv_rows e77' (rowsZ fun z hz => aq2' z (wcut z hz))) .nil), fun d hd => ?_, same_tup U78 hT65, (P65.same U78).mono (by omega)⟩
          rcases List.mem_append.mp hd with h | h
          · rcases List.mem_append.mp h with h | h
            · exact vv d h
            · rw [List.mem_singleton.mp h]
              exact vl ws1 hin1 (by omega)
          · rw [List.mem_singleton.mp h]
            exact vl _ (fun z hz => hin2 z (wcut z hz)) (by omega)
        · rw [show decide (V.int (wt.length : Int) = V.int (n : Int)) = false from decide_eq_false fun z => hwn (by have := V.int.inj z; omega)]
          exact iteF ⟨l62, xs, ds, rfl, V64, dv.same (off_same p H64), vv, hT64, P64.mono (by omega)⟩
      rintro σ H65 ⟨b, xs2, ds2, rfl, e65, d65, v65, hT65, P65⟩
      refine ⟨_, rfl, b, rfl, ⟨_, SqL.of e65⟩, for_it (D := { nx := _, rt := Q, bk := fun _ _ => True, ct := fun _ _ => True }) (walk_list (xs := xs2)) (fun j σ H' => ∃ y13 y14 y15, σ = [some (.ref a), some (.ref p), some (vN i), some (.ref ra), some (.int (n : Int)), some (.ref ga), some (.int (s : Int)), some (.int (at_ : Int)), some (.str (S wt)), some (.str (S wd)), some (.int (ct : Int)), some ov, some (.ref b), y13, y14, y15, none, none, none, none] ∧ Same H65 H')
        ⟨y13, y14, y15, rfl, Same.refl _⟩ (fun j σ H' _ h => ?_) ?_ ?_⟩
      · obtain ⟨_, _, _, _, s'⟩ := h
        exact SqL.of (s' _ _ e65)
      · rintro j x σ H66 H67 hj ⟨y13, y14, y15, rfl, s66⟩ ⟨rfl, hx⟩
        obtain ⟨d, hd, hdx⟩ := d65.at hx
        obtain ⟨g1, g2⟩ := v65 d (List.mem_of_getElem? hd)
        have hdx := hdx.same s66
        have hT66 := same_tup s66 hT65
        have sb := bool_shows (clD W s n (stL W s n) d)
        have sv := g1.shows (by decide) (by decide)
        refine ⟨_, rfl, x, d, rfl, hdx.1, sv.ok, sv.dp, sv.sz, ?_⟩
        refine ⟨_, rfl, _, rfl, _, rfl, ra, W, s, n, x, d, rfl, hT66, hW, hn1, by omega, hdx.1, fun es e => ⟨by have := (g2 es e).2.1; omega, (g2 es e).2.2⟩, fun H68 S68 => ⟨_, _, rfl, ?_⟩⟩
        refine ⟨_, rfl, _, rfl, _, rfl, ra, W, s, n, x, d, rfl, same_tup S68 hT66, hP, hW, hn1, by omega, hdx.same S68, fun es e => ⟨(g2 es e).1, (g2 es e).2.1, fun f hf gs eg g hg => by
          obtain ⟨z1, z2⟩ := (g2 es e).2.2 f hf gs eg g hg
          exact ⟨by omega, z2⟩⟩, fun H69 S69 => ⟨_, .bool (clD W s n (stL W s n) d), rfl, .bl _, sb.ok, sb.dp, sb.sz, ?_⟩⟩
        refine ⟨_, rfl, _, .bool (clD W s n (stL W s n) d), rfl, .bl _, sb.ok, sb.dp, sb.sz, rfl, _, rfl, iteNS rfl ?_⟩
        refine ⟨_, rfl, x, d, rfl, (hdx.same (S68.trans S69)).1, sv.ok, sv.dp, sv.sz, _, rfl, rfl, _, rfl, iteNS rfl ⟨_, _, _, rfl, (s66.trans S68).trans S69⟩⟩
      rintro σ H66 ⟨y13, y14, y15, rfl, s66⟩
      exact ⟨_, _, _, _, _, _, _, _, _, _, _, _, _, _, rfl, (P65.same s66).mono (by omega)⟩
    · rintro σ H2 ⟨y2, y3, y4, y5, y6, y7, y8, y9, y10, y11, y12, y13, y14, y15, rfl, P2⟩
      replace P2 : Pen H2 p c 3000 := P2
      refine ⟨_, rfl, by show 2 ≤ sizeLine; decide, ?_⟩
      walk_at "n5"
      refine ⟨by show 2 ≤ sizeLine; decide, ?_⟩
      walk_at "n6"
      refine ⟨by show 2 ≤ sizeLine; decide, ?_⟩
      walk_at "n7"
      refine ⟨by show 3 ≤ sizeLine; decide, ?_⟩
      walk_at "n8"
      have P8 := P2.same (((S5.trans S6).trans S7).trans S8)
      refine ⟨p, c, _, .ref l8, rfl, P8, by omega, .inl ⟨l8, _, rfl, SqL.of e8, ((P2.same ((S5.trans S6).trans S7)).ne_free n8).1, by show 0 < 3; decide, by show 3 < 1073741824; decide, fun r v H9 hv B9 P9 => ?_⟩⟩
      obtain ⟨ra, W, s, rfl, hT9, hP, hW, hwl, hsz2⟩ : ∃ (ra : Addr) (W : List (List Nat)) (s : Nat), v = .ref ra ∧ SqT K H9 ra (W.map vW) ∧ RuleP W ∧ RuleW W s ∧ W.length = 2 ∧ (s = 2 ∨ s = 3) := by
        have t7 := S8 _ _ e7
        have t6 := S8 _ _ (S7 _ _ e6)
        have t5 := S8 _ _ (S7 _ _ (S6 _ _ e5))
        have fin : ∀ (b : Addr) (W : List (List Nat)) (vs : List V) (s : Nat), H8 b = some (.tup vs) → W.map vW = vs → ruleB W = true → W.length = 2 → (W.all fun w => w.length == s) = true → (s = 2 ∨ s = 3) → v = .ref b → ∃ (ra : Addr) (W : List (List Nat)) (s : Nat), v = .ref ra ∧ SqT K H9 ra (W.map vW) ∧ RuleP W ∧ RuleW W s ∧ W.length = 2 ∧ (s = 2 ∨ s = 3) := fun b W vs s e1 e2 e3 e4 e5 e6 e7 => by
          have hP := ruleB_ok e3
          obtain ⟨s', hW⟩ := hP.w
          have es : s' = s := by
            obtain ⟨w, hw⟩ : ∃ w, w ∈ W := ⟨W[0]'(by omega), List.getElem_mem _⟩
            have h1 := (hW.2.2.2.2 w hw).1
            have h2 := List.all_eq_true.mp e5 w hw
            rw [beq_iff_eq] at h2
            omega
          subst es
          exact ⟨b, W, _, e7, P8.tup B9 (SqT.of (by rw [e1, e2])), hP, hW, e4, e6⟩
        have hm := List.mem_of_getElem? hv
        simp only [List.mem_cons, List.not_mem_nil, or_false] at hm
        rcases hm with rfl | rfl | rfl
        · exact fin l5 [[97, 98], [98, 97]] _ 2 t5 (by decide +kernel) (by decide) rfl (by decide) (.inl rfl) rfl
        · exact fin l6 [[97, 98], [97, 97]] _ 2 t6 (by decide +kernel) (by decide) rfl (by decide) (.inl rfl) rfl
        · exact fin l7 [[97, 97, 98], [97, 98, 98]] _ 3 t7 (by decide +kernel) (by decide) rfl (by decide) (.inr rfl) rfl
      clear hv e5 e6 e7 e8 n5 n6 n7 n8 S5 S6 S7 S8 B9 P8
      refine ⟨_, rfl, p, c, _, 12, rfl, P9, by omega, by decide, by decide, fun n0 H10 hn0 B10 P10 => ?_⟩
      have hT10 : SqT K H10 ra (W.map vW) := P9.tup B10 hT9
      obtain ⟨hb1, hb2⟩ := handP_num (s := s) hn0 hsz2
      obtain ⟨n, hnn⟩ : ∃ n, n = 5 + n0 := ⟨_, rfl⟩
      rw [← hnn] at hb1 hb2
      refine ⟨_, _, rfl, rfl, by show 2 ≤ sizeLine; decide, ?_⟩
      walk_at "n11"
      have e11' : H11 l11 = some (.tup [.ref ra, .int (n : Int)]) := by
        rw [e11]
        show some (HO.tup [V.ref ra, V.int ((5 : Int) + (n0 : Int))]) = _
        rw [show ((5 : Int) + (n0 : Int)) = (n : Int) by omega]
      have hn16 : n ≤ 16 := by omega
      have hn1 : 1 ≤ n := by omega
      have hs2 := hW.2.2.1
      have hs4 := hW.2.2.2.1
      have hw4 := hW.2.1
      have hT11 := same_tup S11 hT10
      refine ⟨l11, _, rfl, SqT.of e11', rfl, _, _, rfl, _, _, rfl, rfl, ?_⟩
      have hN : W.length ^ n ≤ 65536 := by
        rw [hwl]
        exact Nat.le_trans (Nat.pow_le_pow_right (by decide) hn16) (by decide)
      refine ⟨_, rfl, _, rfl, ra, W, s, n, rfl, hT11, hW, hn1, by omega, hN, fun ga zs H12 nga S12 eg az gnd hgood => ?_⟩
      have hT12 := same_tup S12 hT11
      have gfew := facP_few hP hW (show 3 ≤ n by omega) (show n ≤ 200 by omega) gnd fun w hw => (hgood w).mp hw
      rw [hwl, List.length_map] at gfew
      have st0 := stL_in hW (show n ≤ 200 by omega)
      have gin : ∀ z ∈ zs, PIn W s n z.2 := fun z hz => rchP_in hW st0 ((hgood z.2).mp (List.mem_map_of_mem hz))
      have g0 : 0 < zs.length := by
        have := List.length_pos_of_mem ((hgood _).mpr .start)
        rwa [List.length_map] at this
      have gCl : ClP W s n (stL W s n) (zs.map (·.2)) := rchP_cl hW st0 hgood
      clear P9 hT9 hT10 hT11 B10 e11 e11' n11 S11 S12 nga P10
      dsimp only [tNoPart]
      refine ⟨_, rfl, _, rfl, _, rfl, ga, _, rfl, SqL.of eg, ?_⟩
      walk_at "n13"
      have g13 := S13 _ _ eg
      refine ⟨_, rfl, _, rfl, _, ga, _, rfl, by decide, rfl, SqL.of g13, ?_⟩
      walk_at "n14"
      have g14 := S14 _ _ g13
      refine ⟨_, rfl, _, rfl, _, rfl, ga, _, rfl, SqL.of g14, ?_⟩
      walk_at "n15"
      have g15 := S15 _ _ g14
      refine ⟨by show 4 ≤ sizeLine; decide, ?_⟩
      walk_at "n16"
      have S1216 := ((S13.trans S14).trans S15).trans S16
      have hT16 := same_tup S1216 hT12
      have az16 := az.same S1216
      obtain ⟨qs, ezs, hzs, hbs⟩ : ∃ qs : List (Addr × List (Addr × WC) × Bool), H16 l16 = some (.tup (qs.map fun z => V.ref z.1)) ∧ (∀ z ∈ qs, H16 z.1 = some (.lst (z.2.1.map vZ)) ∧ z.2.1.length ≤ zs.length ∧ (∀ w ∈ z.2.1, w ∈ zs) ∧ (z.2.2 = true ↔ ClP W s n (stL W s n) (z.2.1.map (·.2)))) ∧ qs.map (·.2.2) = [true, false, true, false] := by
        have e13' : H16 l13 = some (.lst ((zs.drop 1).map vZ)) := by
          rw [S16 _ _ (S15 _ _ (S14 _ _ e13)), cutV_L, cutL_map, show cutL zs (some 1) none = zs.drop 1 from cutL_suf zs 1]
        have e14' : H16 l14 = some (.lst (zs.reverse.map vZ)) := by rw [S16 _ _ (S15 _ _ e14), pick_rev, ← List.map_reverse]
        have e15' : H16 l15 = some (.lst ((zs.take (zs.length - 1)).map vZ)) := by rw [S16 _ _ e15, cutV_L, cutL_map, cutL_neg1]
        refine ⟨[(ga, zs, true), (l13, zs.drop 1, false), (l14, zs.reverse, true), (l15, zs.take (zs.length - 1), false)], e16, fun z hz => ?_, rfl⟩
        simp only [List.mem_cons, List.not_mem_nil, or_false] at hz
        rcases hz with rfl | rfl | rfl | rfl
        · exact ⟨S16 _ _ g15, Nat.le_refl _, fun _ h => h, ⟨fun _ => gCl, fun _ => rfl⟩⟩
        · refine ⟨e13', by rw [List.length_drop]; omega, fun w hw => List.mem_of_mem_drop hw, ⟨fun h => (nomatch h), fun h => ?_⟩⟩
          obtain ⟨w, hw⟩ : ∃ w, zs[0]? = some w := ⟨_, List.getElem?_eq_getElem g0⟩
          refine absurd h (cl_less (p := w.2) ((hgood w.2).mp (List.mem_map_of_mem (List.mem_of_getElem? hw))) fun hm => ?_)
          have e : zs = w :: zs.drop 1 := by
            obtain ⟨h1, h2⟩ := List.getElem?_eq_some_iff.mp hw
            have := List.drop_eq_getElem_cons h1
            rw [List.drop_zero, h2] at this
            exact this
          rw [e, List.map_cons] at gnd
          exact (List.nodup_cons.mp gnd).1 hm
        · exact ⟨e14', by rw [List.length_reverse]; exact Nat.le_refl _, fun w hw => List.mem_reverse.mp hw, ⟨fun _ => cl_perm (fun w => by rw [List.map_reverse]; exact List.mem_reverse) gCl, fun _ => rfl⟩⟩
        · refine ⟨e15', by rw [List.length_take]; omega, fun w hw => List.mem_of_mem_take hw, ⟨fun h => (nomatch h), fun h => ?_⟩⟩
          obtain ⟨w, hw⟩ : ∃ w, zs[zs.length - 1]? = some w := ⟨_, List.getElem?_eq_getElem (by omega)⟩
          refine absurd h (cl_less (p := w.2) ((hgood w.2).mp (List.mem_map_of_mem (List.mem_of_getElem? hw))) ?_)
          have hw2 : (zs.map (·.2))[zs.length - 1]? = some w.2 := by rw [List.getElem?_map, hw]; rfl
          show w.2 ∉ (zs.take (zs.length - 1)).map (·.2)
          rw [List.map_take]
          exact nodup_at hw2 gnd
      refine ⟨l16, rfl, ⟨_, SqT.of ezs⟩, fun D hD => ?_⟩
      have wk : Walk (Itt K l16) qs.length (fun H => SqT K H l16 (qs.map fun z => V.ref z.1)) (YAt (qs.map fun z => V.ref z.1)) := by
        have z := walk_tup (K := K) (a := l16) (xs := qs.map fun z => V.ref z.1)
        rwa [List.length_map] at z
      have zl : qs.length = 4 := by
        have := congrArg List.length hbs
        rw [List.length_map] at this
        exact this
      refine lc_map qs (fun z => .bl z.2.2) wk hD (by omega) (fun H' s => SqT.of (s _ _ ezs)) ?_ ?_
      · rintro j z x H17 H18 R hz s17 ⟨rfl, hx⟩ hR
        rw [List.getElem?_map, hz] at hx
        obtain rfl := Option.some.inj hx
        obtain ⟨ez, hzl, hzin, hzb⟩ := hzs z (List.mem_of_getElem? hz)
        refine ⟨rfl, _, rfl, _, rfl, _, rfl, ra, W, s, n, .ref z.1, .list (z.2.1.map fun z => dP z.2), rfl, same_tup s17 hT16, hP, hW, hn1, hn16, cv_rows (s17 _ _ ez) (rowsZ fun y hy => s17 _ _ (az16 y (hzin y hy))), fun es e => ?_, fun H19 S19 => ?_⟩
        · cases e
          refine ⟨by rw [List.length_map]; exact Nat.le_trans (Nat.mul_le_mul_right _ (Nat.le_trans hzl gfew)) hb1, by rw [List.length_map]; omega, fun f hf gs eg g hg => ?_⟩
          obtain ⟨y, hy, rfl⟩ := List.mem_map.mp hf
          obtain ⟨z1, z2⟩ := (okRow_dP hw4 hs4 hn16 (gin y (hzin y hy))).2 gs eg g hg
          exact ⟨by omega, z2⟩
        · have ec : clD W s n (stL W s n) (.list (z.2.1.map fun z => dP z.2)) = z.2.2 := by
            rw [dataZ]
            exact cl_dP hzb
          rw [ec]
          exact hR _ S19
      intro H17 S17 e17
      have e17' : H17 D = some (.lst [.bl true, .bl false, .bl true, .bl false]) := by
        rw [e17]
        have : (qs.map fun z => V.bl z.2.2) = (qs.map (·.2.2)).map V.bl := by rw [List.map_map]; rfl
        rw [this, hbs]
        rfl
      refine ⟨_, rfl, by show 4 ≤ sizeLine; decide, ?_⟩
      walk_at "n18"
      refine ⟨.list [.bool true, .bool false, .bool true, .bool false], .list [.bool true, .bool false, .bool true, .bool false], .lst (SqL.of (S18 _ _ e17')) (.cons (.bl _) (.cons (.bl _) (.cons (.bl _) (.cons (.bl _) .nil)))), .lst (SqL.of e18) (.cons (.bl _) (.cons (.bl _) (.cons (.bl _) (.cons (.bl _) .nil)))), by decide +kernel, by decide +kernel, ?_⟩
      rw [show PyData.eqv (.list [.bool true, .bool false, .bool true, .bool false]) (.list [.bool true, .bool false, .bool true, .bool false]) = true by decide +kernel]
      exact k _

end

theorem all_mk {l : PySem.W.OpenLaw} {w : World} {K : PySem.W.Frag} {h : Heap} {mg : Str → Option Value} {fa : Addr} (X : K.In h) (G : h.Ns mainGlobals mg) (hfa : mg "law" = some (.ref fa))
    {f0 : Addr} {od0 an0 : Option Addr} {sl0 : Array (Option Value)} {oc0 kV0 dc0 pm0 cd0 ct0 : Value}
    {f1 : Addr} {od1 an1 : Option Addr} {sl1 : Array (Option Value)} {oc1 kV1 dc1 pm1 cd1 ct1 : Value}
    {f2 : Addr} {od2 an2 : Option Addr} {sl2 : Array (Option Value)} {oc2 kV2 dc2 pm2 cd2 ct2 : Value}
    {f3 : Addr} {od3 an3 : Option Addr} {sl3 : Array (Option Value)} {oc3 kV3 dc3 pm3 cd3 ct3 : Value}
    {f4 : Addr} {od4 an4 : Option Addr} {sl4 : Array (Option Value)} {oc4 kV4 dc4 pm4 cd4 ct4 : Value}
    {f5 : Addr} {od5 an5 : Option Addr} {sl5 : Array (Option Value)} {oc5 kV5 dc5 pm5 cd5 ct5 : Value}
    {f6 : Addr} {od6 an6 : Option Addr} {sl6 : Array (Option Value)} {oc6 kV6 dc6 pm6 cd6 ct6 : Value}
    {f7 : Addr} {od7 an7 : Option Addr} {sl7 : Array (Option Value)} {oc7 kV7 dc7 pm7 cd7 ct7 : Value}
    {f8 : Addr} {od8 an8 : Option Addr} {sl8 : Array (Option Value)} {oc8 kV8 dc8 pm8 cd8 ct8 : Value}
    {f9 : Addr} {od9 an9 : Option Addr} {sl9 : Array (Option Value)} {oc9 kV9 dc9 pm9 cd9 ct9 : Value}
    {f10 : Addr} {od10 an10 : Option Addr} {sl10 : Array (Option Value)} {oc10 kV10 dc10 pm10 cd10 ct10 : Value}
    {f11 : Addr} {od11 an11 : Option Addr} {sl11 : Array (Option Value)} {oc11 kV11 dc11 pm11 cd11 ct11 : Value}
    {f12 : Addr} {od12 an12 : Option Addr} {sl12 : Array (Option Value)} {oc12 kV12 dc12 pm12 cd12 ct12 : Value}
    {f13 : Addr} {od13 an13 : Option Addr} {sl13 : Array (Option Value)} {oc13 kV13 dc13 pm13 cd13 ct13 : Value}
    {f14 : Addr} {od14 an14 : Option Addr} {sl14 : Array (Option Value)} {oc14 kV14 dc14 pm14 cd14 ct14 : Value}
    {f15 : Addr} {od15 an15 : Option Addr} {sl15 : Array (Option Value)} {oc15 kV15 dc15 pm15 cd15 ct15 : Value}
    {f16 : Addr} {od16 an16 : Option Addr} {sl16 : Array (Option Value)} {oc16 kV16 dc16 pm16 cd16 ct16 : Value}
    {f17 : Addr} {od17 an17 : Option Addr} {sl17 : Array (Option Value)} {oc17 kV17 dc17 pm17 cd17 ct17 : Value}
    {f18 : Addr} {od18 an18 : Option Addr} {sl18 : Array (Option Value)} {oc18 kV18 dc18 pm18 cd18 ct18 : Value}
    {f19 : Addr} {od19 an19 : Option Addr} {sl19 : Array (Option Value)} {oc19 kV19 dc19 pm19 cd19 ct19 : Value}
    {f20 : Addr} {od20 an20 : Option Addr} {sl20 : Array (Option Value)} {oc20 kV20 dc20 pm20 cd20 ct20 : Value}
    {f21 : Addr} {od21 an21 : Option Addr} {sl21 : Array (Option Value)} {oc21 kV21 dc21 pm21 cd21 ct21 : Value}
    {f22 : Addr} {od22 an22 : Option Addr} {sl22 : Array (Option Value)} {oc22 kV22 dc22 pm22 cd22 ct22 : Value}
    {f23 : Addr} {od23 an23 : Option Addr} {sl23 : Array (Option Value)} {oc23 kV23 dc23 pm23 cd23 ct23 : Value}
    {f24 : Addr} {od24 an24 : Option Addr} {sl24 : Array (Option Value)} {oc24 kV24 dc24 pm24 cd24 ct24 : Value}
    {f25 : Addr} {od25 an25 : Option Addr} {sl25 : Array (Option Value)} {oc25 kV25 dc25 pm25 cd25 ct25 : Value}
    {f26 : Addr} {od26 an26 : Option Addr} {sl26 : Array (Option Value)} {oc26 kV26 dc26 pm26 cd26 ct26 : Value}
    {f27 : Addr} {od27 an27 : Option Addr} {sl27 : Array (Option Value)} {oc27 kV27 dc27 pm27 cd27 ct27 : Value}
    {f28 : Addr} {od28 an28 : Option Addr} {sl28 : Array (Option Value)} {oc28 kV28 dc28 pm28 cd28 ct28 : Value}
    {f29 : Addr} {od29 an29 : Option Addr} {sl29 : Array (Option Value)} {oc29 kV29 dc29 pm29 cd29 ct29 : Value}
    {f30 : Addr} {od30 an30 : Option Addr} {sl30 : Array (Option Value)} {oc30 kV30 dc30 pm30 cd30 ct30 : Value}
    {t_FEWEST_WORDS : Tok}
    {t_LONGEST : Tok}
    {t_LONGEST_LISTED : Tok}
    {t_LONGEST_START : Tok}
    {t_LONGEST_WORD : Tok}
    {t_MOST_WORDS : Tok}
    {t_SHORTEST : Tok}
    {t_SMALL : Tok}
    {c_InvalidNumber : Addr}
    {c_InvalidRule : Addr}
    {c_PatternError : Addr}
    (a0 : PySem.W.nsIn K mainGlobals "is_integer" = some (some (.ref f0)))
    (l0 : K.lookup f0 = some ⟨oc0, od0, .func (PySem.W.fnOf "is_integer" "is_integer" (defArgs s_is_integer) (defBody s_is_integer) (defScope s_is_integer) .none kV0 dc0 pm0 an0 cd0 ct0), sl0⟩)
    (c0 : PySem.W.codeIn K cd0 "is_integer" = true)
    (k0 : PySem.W.keepIn K (.ref f0) = true)
    (a1 : PySem.W.nsIn K mainGlobals "is_integer_from" = some (some (.ref f1)))
    (l1 : K.lookup f1 = some ⟨oc1, od1, .func (PySem.W.fnOf "is_integer_from" "is_integer_from" (defArgs s_is_integer_from) (defBody s_is_integer_from) (defScope s_is_integer_from) .none kV1 dc1 pm1 an1 cd1 ct1), sl1⟩)
    (c1 : PySem.W.codeIn K cd1 "is_integer_from" = true)
    (k1 : PySem.W.keepIn K (.ref f1) = true)
    (a2 : PySem.W.nsIn K mainGlobals "need_integer" = some (some (.ref f2)))
    (l2 : K.lookup f2 = some ⟨oc2, od2, .func (PySem.W.fnOf "need_integer" "need_integer" (defArgs s_need_integer) (defBody s_need_integer) (defScope s_need_integer) .none kV2 dc2 pm2 an2 cd2 ct2), sl2⟩)
    (c2 : PySem.W.codeIn K cd2 "need_integer" = true)
    (k2 : PySem.W.keepIn K (.ref f2) = true)
    (a3 : PySem.W.nsIn K mainGlobals "has_only" = some (some (.ref f3)))
    (l3 : K.lookup f3 = some ⟨oc3, od3, .func (PySem.W.fnOf "has_only" "has_only" (defArgs s_has_only) (defBody s_has_only) (defScope s_has_only) .none kV3 dc3 pm3 an3 cd3 ct3), sl3⟩)
    (c3 : PySem.W.codeIn K cd3 "has_only" = true)
    (k3 : PySem.W.keepIn K (.ref f3) = true)
    (a4 : PySem.W.nsIn K mainGlobals "is_word" = some (some (.ref f4)))
    (l4 : K.lookup f4 = some ⟨oc4, od4, .func (PySem.W.fnOf "is_word" "is_word" (defArgs s_is_word) (defBody s_is_word) (defScope s_is_word) .none kV4 dc4 pm4 an4 cd4 ct4), sl4⟩)
    (c4 : PySem.W.codeIn K cd4 "is_word" = true)
    (k4 : PySem.W.keepIn K (.ref f4) = true)
    (a5 : PySem.W.nsIn K mainGlobals "is_rule" = some (some (.ref f5)))
    (l5 : K.lookup f5 = some ⟨oc5, od5, .func (PySem.W.fnOf "is_rule" "is_rule" (defArgs s_is_rule) (defBody s_is_rule) (defScope s_is_rule) .none kV5 dc5 pm5 an5 cd5 ct5), sl5⟩)
    (c5 : PySem.W.codeIn K cd5 "is_rule" = true)
    (k5 : PySem.W.keepIn K (.ref f5) = true)
    (a6 : PySem.W.nsIn K mainGlobals "need_rule" = some (some (.ref f6)))
    (l6 : K.lookup f6 = some ⟨oc6, od6, .func (PySem.W.fnOf "need_rule" "need_rule" (defArgs s_need_rule) (defBody s_need_rule) (defScope s_need_rule) .none kV6 dc6 pm6 an6 cd6 ct6), sl6⟩)
    (c6 : PySem.W.codeIn K cd6 "need_rule" = true)
    (k6 : PySem.W.keepIn K (.ref f6) = true)
    (a7 : PySem.W.nsIn K mainGlobals "image" = some (some (.ref f7)))
    (l7 : K.lookup f7 = some ⟨oc7, od7, .func (PySem.W.fnOf "image" "image" (defArgs s_image) (defBody s_image) (defScope s_image) .none kV7 dc7 pm7 an7 cd7 ct7), sl7⟩)
    (c7 : PySem.W.codeIn K cd7 "image" = true)
    (k7 : PySem.W.keepIn K (.ref f7) = true)
    (a8 : PySem.W.nsIn K mainGlobals "start_of" = some (some (.ref f8)))
    (l8 : K.lookup f8 = some ⟨oc8, od8, .func (PySem.W.fnOf "start_of" "start_of" (defArgs s_start_of) (defBody s_start_of) (defScope s_start_of) .none kV8 dc8 pm8 an8 cd8 ct8), sl8⟩)
    (c8 : PySem.W.codeIn K cd8 "start_of" = true)
    (k8 : PySem.W.keepIn K (.ref f8) = true)
    (a9 : PySem.W.nsIn K mainGlobals "rule_start" = some (some (.ref f9)))
    (l9 : K.lookup f9 = some ⟨oc9, od9, .func (PySem.W.fnOf "rule_start" "rule_start" (defArgs s_rule_start) (defBody s_rule_start) (defScope s_rule_start) .none kV9 dc9 pm9 an9 cd9 ct9), sl9⟩)
    (c9 : PySem.W.codeIn K cd9 "rule_start" = true)
    (k9 : PySem.W.keepIn K (.ref f9) = true)
    (a10 : PySem.W.nsIn K mainGlobals "standing_in_images" = some (some (.ref f10)))
    (l10 : K.lookup f10 = some ⟨oc10, od10, .func (PySem.W.fnOf "standing_in_images" "standing_in_images" (defArgs s_standing_in_images) (defBody s_standing_in_images) (defScope s_standing_in_images) .none kV10 dc10 pm10 an10 cd10 ct10), sl10⟩)
    (c10 : PySem.W.codeIn K cd10 "standing_in_images" = true)
    (k10 : PySem.W.keepIn K (.ref f10) = true)
    (a11 : PySem.W.nsIn K mainGlobals "is_rule_word" = some (some (.ref f11)))
    (l11 : K.lookup f11 = some ⟨oc11, od11, .func (PySem.W.fnOf "is_rule_word" "is_rule_word" (defArgs s_is_rule_word) (defBody s_is_rule_word) (defScope s_is_rule_word) .none kV11 dc11 pm11 an11 cd11 ct11), sl11⟩)
    (c11 : PySem.W.codeIn K cd11 "is_rule_word" = true)
    (k11 : PySem.W.keepIn K (.ref f11) = true)
    (a12 : PySem.W.nsIn K mainGlobals "_is_cut_row" = some (some (.ref f12)))
    (l12 : K.lookup f12 = some ⟨oc12, od12, .func (PySem.W.fnOf "_is_cut_row" "_is_cut_row" (defArgs s_is_cut_row) (defBody s_is_cut_row) (defScope s_is_cut_row) .none kV12 dc12 pm12 an12 cd12 ct12), sl12⟩)
    (c12 : PySem.W.codeIn K cd12 "_is_cut_row" = true)
    (k12 : PySem.W.keepIn K (.ref f12) = true)
    (a13 : PySem.W.nsIn K mainGlobals "is_cut_list" = some (some (.ref f13)))
    (l13 : K.lookup f13 = some ⟨oc13, od13, .func (PySem.W.fnOf "is_cut_list" "is_cut_list" (defArgs s_is_cut_list) (defBody s_is_cut_list) (defScope s_is_cut_list) .none kV13 dc13 pm13 an13 cd13 ct13), sl13⟩)
    (c13 : PySem.W.codeIn K cd13 "is_cut_list" = true)
    (k13 : PySem.W.keepIn K (.ref f13) = true)
    (a14 : PySem.W.nsIn K mainGlobals "_law_open" = some (some (.ref f14)))
    (l14 : K.lookup f14 = some ⟨oc14, od14, .func (PySem.W.fnOf "_law_open" "_law_open" (defArgs s_law_open) (defBody s_law_open) (defScope s_law_open) .none kV14 dc14 pm14 an14 cd14 ct14), sl14⟩)
    (c14 : PySem.W.codeIn K cd14 "_law_open" = true)
    (k14 : PySem.W.keepIn K (.ref f14) = true)
    (a15 : PySem.W.nsIn K mainGlobals "_law_anew" = some (some (.ref f15)))
    (l15 : K.lookup f15 = some ⟨oc15, od15, .func (PySem.W.fnOf "_law_anew" "_law_anew" (defArgs s_law_anew) (defBody s_law_anew) (defScope s_law_anew) .none kV15 dc15 pm15 an15 cd15 ct15), sl15⟩)
    (c15 : PySem.W.codeIn K cd15 "_law_anew" = true)
    (k15 : PySem.W.keepIn K (.ref f15) = true)
    (a16 : PySem.W.nsIn K mainGlobals "_law_spread" = some (some (.ref f16)))
    (l16 : K.lookup f16 = some ⟨oc16, od16, .func (PySem.W.fnOf "_law_spread" "_law_spread" (defArgs s_law_spread) (defBody s_law_spread) (defScope s_law_spread) .none kV16 dc16 pm16 an16 cd16 ct16), sl16⟩)
    (c16 : PySem.W.codeIn K cd16 "_law_spread" = true)
    (k16 : PySem.W.keepIn K (.ref f16) = true)
    (a17 : PySem.W.nsIn K mainGlobals "_law_take" = some (some (.ref f17)))
    (l17 : K.lookup f17 = some ⟨oc17, od17, .func (PySem.W.fnOf "_law_take" "_law_take" (defArgs s_law_take) (defBody s_law_take) (defScope s_law_take) .none kV17 dc17 pm17 an17 cd17 ct17), sl17⟩)
    (c17 : PySem.W.codeIn K cd17 "_law_take" = true)
    (k17 : PySem.W.keepIn K (.ref f17) = true)
    (a18 : PySem.W.nsIn K mainGlobals "_law_one" = some (some (.ref f18)))
    (l18 : K.lookup f18 = some ⟨oc18, od18, .func (PySem.W.fnOf "_law_one" "_law_one" (defArgs s_law_one) (defBody s_law_one) (defScope s_law_one) .none kV18 dc18 pm18 an18 cd18 ct18), sl18⟩)
    (c18 : PySem.W.codeIn K cd18 "_law_one" = true)
    (k18 : PySem.W.keepIn K (.ref f18) = true)
    (a19 : PySem.W.nsIn K mainGlobals "_law_power" = some (some (.ref f19)))
    (l19 : K.lookup f19 = some ⟨oc19, od19, .func (PySem.W.fnOf "_law_power" "_law_power" (defArgs s_law_power) (defBody s_law_power) (defScope s_law_power) .none kV19 dc19 pm19 an19 cd19 ct19), sl19⟩)
    (c19 : PySem.W.codeIn K cd19 "_law_power" = true)
    (k19 : PySem.W.keepIn K (.ref f19) = true)
    (a20 : PySem.W.nsIn K mainGlobals "_law_word_of" = some (some (.ref f20)))
    (l20 : K.lookup f20 = some ⟨oc20, od20, .func (PySem.W.fnOf "_law_word_of" "_law_word_of" (defArgs s_law_word_of) (defBody s_law_word_of) (defScope s_law_word_of) .none kV20 dc20 pm20 an20 cd20 ct20), sl20⟩)
    (c20 : PySem.W.codeIn K cd20 "_law_word_of" = true)
    (k20 : PySem.W.keepIn K (.ref f20) = true)
    (a21 : PySem.W.nsIn K mainGlobals "_law_rule" = some (some (.ref f21)))
    (l21 : K.lookup f21 = some ⟨oc21, od21, .func (PySem.W.fnOf "_law_rule" "_law_rule" (defArgs s_law_rule) (defBody s_law_rule) (defScope s_law_rule) .none kV21 dc21 pm21 an21 cd21 ct21), sl21⟩)
    (c21 : PySem.W.codeIn K cd21 "_law_rule" = true)
    (k21 : PySem.W.keepIn K (.ref f21) = true)
    (a22 : PySem.W.nsIn K mainGlobals "_law_image" = some (some (.ref f22)))
    (l22 : K.lookup f22 = some ⟨oc22, od22, .func (PySem.W.fnOf "_law_image" "_law_image" (defArgs s_law_image) (defBody s_law_image) (defScope s_law_image) .none kV22 dc22 pm22 an22 cd22 ct22), sl22⟩)
    (c22 : PySem.W.codeIn K cd22 "_law_image" = true)
    (k22 : PySem.W.keepIn K (.ref f22) = true)
    (a23 : PySem.W.nsIn K mainGlobals "_law_start" = some (some (.ref f23)))
    (l23 : K.lookup f23 = some ⟨oc23, od23, .func (PySem.W.fnOf "_law_start" "_law_start" (defArgs s_law_start) (defBody s_law_start) (defScope s_law_start) .none kV23 dc23 pm23 an23 cd23 ct23), sl23⟩)
    (c23 : PySem.W.codeIn K cd23 "_law_start" = true)
    (k23 : PySem.W.keepIn K (.ref f23) = true)
    (a24 : PySem.W.nsIn K mainGlobals "_law_text" = some (some (.ref f24)))
    (l24 : K.lookup f24 = some ⟨oc24, od24, .func (PySem.W.fnOf "_law_text" "_law_text" (defArgs s_law_text) (defBody s_law_text) (defScope s_law_text) .none kV24 dc24 pm24 an24 cd24 ct24), sl24⟩)
    (c24 : PySem.W.codeIn K cd24 "_law_text" = true)
    (k24 : PySem.W.keepIn K (.ref f24) = true)
    (a25 : PySem.W.nsIn K mainGlobals "_law_parts" = some (some (.ref f25)))
    (l25 : K.lookup f25 = some ⟨oc25, od25, .func (PySem.W.fnOf "_law_parts" "_law_parts" (defArgs s_law_parts) (defBody s_law_parts) (defScope s_law_parts) .none kV25 dc25 pm25 an25 cd25 ct25), sl25⟩)
    (c25 : PySem.W.codeIn K cd25 "_law_parts" = true)
    (k25 : PySem.W.keepIn K (.ref f25) = true)
    (a26 : PySem.W.nsIn K mainGlobals "_law_pairs" = some (some (.ref f26)))
    (l26 : K.lookup f26 = some ⟨oc26, od26, .func (PySem.W.fnOf "_law_pairs" "_law_pairs" (defArgs s_law_pairs) (defBody s_law_pairs) (defScope s_law_pairs) .none kV26 dc26 pm26 an26 cd26 ct26), sl26⟩)
    (c26 : PySem.W.codeIn K cd26 "_law_pairs" = true)
    (k26 : PySem.W.keepIn K (.ref f26) = true)
    (a27 : PySem.W.nsIn K mainGlobals "_law_led" = some (some (.ref f27)))
    (l27 : K.lookup f27 = some ⟨oc27, od27, .func (PySem.W.fnOf "_law_led" "_law_led" (defArgs s_law_led) (defBody s_law_led) (defScope s_law_led) .none kV27 dc27 pm27 an27 cd27 ct27), sl27⟩)
    (c27 : PySem.W.codeIn K cd27 "_law_led" = true)
    (k27 : PySem.W.keepIn K (.ref f27) = true)
    (a28 : PySem.W.nsIn K mainGlobals "_law_is_closed_list" = some (some (.ref f28)))
    (l28 : K.lookup f28 = some ⟨oc28, od28, .func (PySem.W.fnOf "_law_is_closed_list" "_law_is_closed_list" (defArgs s_law_is_closed_list) (defBody s_law_is_closed_list) (defScope s_law_is_closed_list) .none kV28 dc28 pm28 an28 cd28 ct28), sl28⟩)
    (c28 : PySem.W.codeIn K cd28 "_law_is_closed_list" = true)
    (k28 : PySem.W.keepIn K (.ref f28) = true)
    (a29 : PySem.W.nsIn K mainGlobals "_law_wider" = some (some (.ref f29)))
    (l29 : K.lookup f29 = some ⟨oc29, od29, .func (PySem.W.fnOf "_law_wider" "_law_wider" (defArgs s_law_wider) (defBody s_law_wider) (defScope s_law_wider) .none kV29 dc29 pm29 an29 cd29 ct29), sl29⟩)
    (c29 : PySem.W.codeIn K cd29 "_law_wider" = true)
    (k29 : PySem.W.keepIn K (.ref f29) = true)
    (a30 : PySem.W.nsIn K mainGlobals "law" = some (some (.ref f30)))
    (l30 : K.lookup f30 = some ⟨oc30, od30, .func (PySem.W.fnOf "law" "law" (defArgs s_law) (defBody s_law) (defScope s_law) .none kV30 dc30 pm30 an30 cd30 ct30), sl30⟩)
    (c30 : PySem.W.codeIn K cd30 "law" = true)
    (k30 : PySem.W.keepIn K (.ref f30) = true)
    (z_FEWEST_WORDS : PySem.W.nsIn K mainGlobals "FEWEST_WORDS" = some (some (.int 2 t_FEWEST_WORDS)))
    (z_LONGEST : PySem.W.nsIn K mainGlobals "LONGEST" = some (some (.int 4 t_LONGEST)))
    (z_LONGEST_LISTED : PySem.W.nsIn K mainGlobals "LONGEST_LISTED" = some (some (.int 16 t_LONGEST_LISTED)))
    (z_LONGEST_START : PySem.W.nsIn K mainGlobals "LONGEST_START" = some (some (.int 200 t_LONGEST_START)))
    (z_LONGEST_WORD : PySem.W.nsIn K mainGlobals "LONGEST_WORD" = some (some (.int 200 t_LONGEST_WORD)))
    (z_MOST_WORDS : PySem.W.nsIn K mainGlobals "MOST_WORDS" = some (some (.int 4 t_MOST_WORDS)))
    (z_SHORTEST : PySem.W.nsIn K mainGlobals "SHORTEST" = some (some (.int 2 t_SHORTEST)))
    (z_SMALL : PySem.W.nsIn K mainGlobals "SMALL" = some (some (.str "abcdefghijklmnopqrstuvwxyz" t_SMALL)))
    (z_bool : PySem.W.nsIn K mainGlobals "bool" = some none)
    (z_enumerate : PySem.W.nsIn K mainGlobals "enumerate" = some none)
    (z_int : PySem.W.nsIn K mainGlobals "int" = some none)
    (z_isinstance : PySem.W.nsIn K mainGlobals "isinstance" = some none)
    (z_len : PySem.W.nsIn K mainGlobals "len" = some none)
    (z_list : PySem.W.nsIn K mainGlobals "list" = some none)
    (z_range : PySem.W.nsIn K mainGlobals "range" = some none)
    (z_repr : PySem.W.nsIn K mainGlobals "repr" = some none)
    (z_set : PySem.W.nsIn K mainGlobals "set" = some none)
    (z_sorted : PySem.W.nsIn K mainGlobals "sorted" = some none)
    (z_str : PySem.W.nsIn K mainGlobals "str" = some none)
    (z_tuple : PySem.W.nsIn K mainGlobals "tuple" = some none)
    (z_InvalidNumber : PySem.W.nsIn K mainGlobals "InvalidNumber" = some (some (.ref c_InvalidNumber)))
    (z_InvalidRule : PySem.W.nsIn K mainGlobals "InvalidRule" = some (some (.ref c_InvalidRule)))
    (z_PatternError : PySem.W.nsIn K mainGlobals "PatternError" = some (some (.ref c_PatternError)))
    : ∃ fd : FuncData, (∀ (s : Shared) (v : Value), BindsTo s fd ⟨[v], []⟩ [("script", v)]) ∧ ∀ base : Heap, K.In base → base.Ns mainGlobals mg → FnG l.prog w K mg base CX0 7 fa fd ["script"] (spTop K) := by
  have e := hfa.symm.trans (PySem.W.mg_of X G a30)
  cases e
  have F0 := fun_mk (st := s_is_integer) l0 c0 k0
  have b0 := F0.binds (ps := ["value"]) fun _ _ _ _ _ _ us hl => match us, hl with | [_], _ => rfl
  have F1 := fun_mk (st := s_is_integer_from) l1 c1 k1
  have b1 := F1.binds (ps := ["value", "low", "high"]) fun _ _ _ _ _ _ us hl => match us, hl with | [_, _, _], _ => rfl
  have F2 := fun_mk (st := s_need_integer) l2 c2 k2
  have b2 := F2.binds (ps := ["value", "low", "high"]) fun _ _ _ _ _ _ us hl => match us, hl with | [_, _, _], _ => rfl
  have F3 := fun_mk (st := s_has_only) l3 c3 k3
  have b3 := F3.binds (ps := ["text", "letters"]) fun _ _ _ _ _ _ us hl => match us, hl with | [_, _], _ => rfl
  have F4 := fun_mk (st := s_is_word) l4 c4 k4
  have b4 := F4.binds (ps := ["value"]) fun _ _ _ _ _ _ us hl => match us, hl with | [_], _ => rfl
  have F5 := fun_mk (st := s_is_rule) l5 c5 k5
  have b5 := F5.binds (ps := ["value"]) fun _ _ _ _ _ _ us hl => match us, hl with | [_], _ => rfl
  have F6 := fun_mk (st := s_need_rule) l6 c6 k6
  have b6 := F6.binds (ps := ["value"]) fun _ _ _ _ _ _ us hl => match us, hl with | [_], _ => rfl
  have F7 := fun_mk (st := s_image) l7 c7 k7
  have b7 := F7.binds (ps := ["rule", "word"]) fun _ _ _ _ _ _ us hl => match us, hl with | [_, _], _ => rfl
  have F8 := fun_mk (st := s_start_of) l8 c8 k8
  have b8 := F8.binds (ps := ["rule", "length"]) fun _ _ _ _ _ _ us hl => match us, hl with | [_, _], _ => rfl
  have F9 := fun_mk (st := s_rule_start) l9 c9 k9
  have b9 := F9.binds (ps := ["rule", "length"]) fun _ _ _ _ _ _ us hl => match us, hl with | [_, _], _ => rfl
  have F10 := fun_mk (st := s_standing_in_images) l10 c10 k10
  have b10 := F10.binds (ps := ["rule", "words", "length"]) fun _ _ _ _ _ _ us hl => match us, hl with | [_, _, _], _ => rfl
  have F11 := fun_mk (st := s_is_rule_word) l11 c11 k11
  have b11 := F11.binds (ps := ["rule", "value"]) fun _ _ _ _ _ _ us hl => match us, hl with | [_, _], _ => rfl
  have F12 := fun_mk (st := s_is_cut_row) l12 c12 k12
  have b12 := F12.binds (ps := ["rule", "length", "value"]) fun _ _ _ _ _ _ us hl => match us, hl with | [_, _, _], _ => rfl
  have F13 := fun_mk (st := s_is_cut_list) l13 c13 k13
  have b13 := F13.binds (ps := ["rule", "length", "value"]) fun _ _ _ _ _ _ us hl => match us, hl with | [_, _, _], _ => rfl
  have F14 := fun_mk (st := s_law_open) l14 c14 k14
  have b14 := F14.binds (ps := ["script"]) fun _ _ _ _ _ _ us hl => match us, hl with | [_], _ => rfl
  have F15 := fun_mk (st := s_law_anew) l15 c15 k15
  have b15 := F15.binds (ps := ["pen"]) fun _ _ _ _ _ _ us hl => match us, hl with | [_], _ => rfl
  have F16 := fun_mk (st := s_law_spread) l16 c16 k16
  have b16 := F16.binds (ps := ["cell", "at"]) fun _ _ _ _ _ _ us hl => match us, hl with | [_, _], _ => rfl
  have F17 := fun_mk (st := s_law_take) l17 c17 k17
  have b17 := F17.binds (ps := ["pen", "many"]) fun _ _ _ _ _ _ us hl => match us, hl with | [_, _], _ => rfl
  have F18 := fun_mk (st := s_law_one) l18 c18 k18
  have b18 := F18.binds (ps := ["pen", "some"]) fun _ _ _ _ _ _ us hl => match us, hl with | [_, _], _ => rfl
  have F19 := fun_mk (st := s_law_power) l19 c19 k19
  have b19 := F19.binds (ps := ["base", "number"]) fun _ _ _ _ _ _ us hl => match us, hl with | [_, _], _ => rfl
  have F20 := fun_mk (st := s_law_word_of) l20 c20 k20
  have b20 := F20.binds (ps := ["number", "many", "length"]) fun _ _ _ _ _ _ us hl => match us, hl with | [_, _, _], _ => rfl
  have F21 := fun_mk (st := s_law_rule) l21 c21 k21
  have b21 := F21.binds (ps := ["pen"]) fun _ _ _ _ _ _ us hl => match us, hl with | [_], _ => rfl
  have F22 := fun_mk (st := s_law_image) l22 c22 k22
  have b22 := F22.binds (ps := ["rule", "word"]) fun _ _ _ _ _ _ us hl => match us, hl with | [_, _], _ => rfl
  have F23 := fun_mk (st := s_law_start) l23 c23 k23
  have b23 := F23.binds (ps := ["rule", "length"]) fun _ _ _ _ _ _ us hl => match us, hl with | [_, _], _ => rfl
  have F24 := fun_mk (st := s_law_text) l24 c24 k24
  have b24 := F24.binds (ps := ["pen", "rule", "most"]) fun _ _ _ _ _ _ us hl => match us, hl with | [_, _, _], _ => rfl
  have F25 := fun_mk (st := s_law_parts) l25 c25 k25
  have b25 := F25.binds (ps := ["word", "length"]) fun _ _ _ _ _ _ us hl => match us, hl with | [_, _], _ => rfl
  have F26 := fun_mk (st := s_law_pairs) l26 c26 k26
  have b26 := F26.binds (ps := ["rule", "length"]) fun _ _ _ _ _ _ us hl => match us, hl with | [_, _], _ => rfl
  have F27 := fun_mk (st := s_law_led) l27 c27 k27
  have b27 := F27.binds (ps := ["rule", "word", "length"]) fun _ _ _ _ _ _ us hl => match us, hl with | [_, _, _], _ => rfl
  have F28 := fun_mk (st := s_law_is_closed_list) l28 c28 k28
  have b28 := F28.binds (ps := ["rule", "length", "value"]) fun _ _ _ _ _ _ us hl => match us, hl with | [_, _, _], _ => rfl
  have F29 := fun_mk (st := s_law_wider) l29 c29 k29
  have b29 := F29.binds (ps := ["rule", "length", "pairs", "most"]) fun _ _ _ _ _ _ us hl => match us, hl with | [_, _, _, _], _ => rfl
  have F30 := fun_mk (st := s_law) l30 c30 k30
  have b30 := F30.binds (ps := ["script"]) fun _ _ _ _ _ _ us hl => match us, hl with | [_], _ => rfl
  have T : Txt K mg { f_is_integer := f0, d_is_integer := _, f_is_integer_from := f1, d_is_integer_from := _, f_need_integer := f2, d_need_integer := _, f_has_only := f3, d_has_only := _, f_is_word := f4, d_is_word := _, f_is_rule := f5, d_is_rule := _, f_need_rule := f6, d_need_rule := _, f_image := f7, d_image := _, f_start_of := f8, d_start_of := _, f_rule_start := f9, d_rule_start := _, f_standing_in_images := f10, d_standing_in_images := _, f_is_rule_word := f11, d_is_rule_word := _, f_is_cut_row := f12, d_is_cut_row := _, f_is_cut_list := f13, d_is_cut_list := _, f_law_open := f14, d_law_open := _, f_law_anew := f15, d_law_anew := _, f_law_spread := f16, d_law_spread := _, f_law_take := f17, d_law_take := _, f_law_one := f18, d_law_one := _, f_law_power := f19, d_law_power := _, f_law_word_of := f20, d_law_word_of := _, f_law_rule := f21, d_law_rule := _, f_law_image := f22, d_law_image := _, f_law_start := f23, d_law_start := _, f_law_text := f24, d_law_text := _, f_law_parts := f25, d_law_parts := _, f_law_pairs := f26, d_law_pairs := _, f_law_led := f27, d_law_led := _, f_law_is_closed_list := f28, d_law_is_closed_list := _, f_law_wider := f29, d_law_wider := _, f_law := fa, d_law := _, t_FEWEST_WORDS := t_FEWEST_WORDS, t_LONGEST := t_LONGEST, t_LONGEST_LISTED := t_LONGEST_LISTED, t_LONGEST_START := t_LONGEST_START, t_LONGEST_WORD := t_LONGEST_WORD, t_MOST_WORDS := t_MOST_WORDS, t_SHORTEST := t_SHORTEST, t_SMALL := t_SMALL, c_InvalidNumber := c_InvalidNumber, c_InvalidRule := c_InvalidRule, c_PatternError := c_PatternError } := { F_is_integer := F0, g_is_integer := PySem.W.mg_of X G a0, b_is_integer := b0, F_is_integer_from := F1, g_is_integer_from := PySem.W.mg_of X G a1, b_is_integer_from := b1, F_need_integer := F2, g_need_integer := PySem.W.mg_of X G a2, b_need_integer := b2, F_has_only := F3, g_has_only := PySem.W.mg_of X G a3, b_has_only := b3, F_is_word := F4, g_is_word := PySem.W.mg_of X G a4, b_is_word := b4, F_is_rule := F5, g_is_rule := PySem.W.mg_of X G a5, b_is_rule := b5, F_need_rule := F6, g_need_rule := PySem.W.mg_of X G a6, b_need_rule := b6, F_image := F7, g_image := PySem.W.mg_of X G a7, b_image := b7, F_start_of := F8, g_start_of := PySem.W.mg_of X G a8, b_start_of := b8, F_rule_start := F9, g_rule_start := PySem.W.mg_of X G a9, b_rule_start := b9, F_standing_in_images := F10, g_standing_in_images := PySem.W.mg_of X G a10, b_standing_in_images := b10, F_is_rule_word := F11, g_is_rule_word := PySem.W.mg_of X G a11, b_is_rule_word := b11, F_is_cut_row := F12, g_is_cut_row := PySem.W.mg_of X G a12, b_is_cut_row := b12, F_is_cut_list := F13, g_is_cut_list := PySem.W.mg_of X G a13, b_is_cut_list := b13, F_law_open := F14, g_law_open := PySem.W.mg_of X G a14, b_law_open := b14, F_law_anew := F15, g_law_anew := PySem.W.mg_of X G a15, b_law_anew := b15, F_law_spread := F16, g_law_spread := PySem.W.mg_of X G a16, b_law_spread := b16, F_law_take := F17, g_law_take := PySem.W.mg_of X G a17, b_law_take := b17, F_law_one := F18, g_law_one := PySem.W.mg_of X G a18, b_law_one := b18, F_law_power := F19, g_law_power := PySem.W.mg_of X G a19, b_law_power := b19, F_law_word_of := F20, g_law_word_of := PySem.W.mg_of X G a20, b_law_word_of := b20, F_law_rule := F21, g_law_rule := PySem.W.mg_of X G a21, b_law_rule := b21, F_law_image := F22, g_law_image := PySem.W.mg_of X G a22, b_law_image := b22, F_law_start := F23, g_law_start := PySem.W.mg_of X G a23, b_law_start := b23, F_law_text := F24, g_law_text := PySem.W.mg_of X G a24, b_law_text := b24, F_law_parts := F25, g_law_parts := PySem.W.mg_of X G a25, b_law_parts := b25, F_law_pairs := F26, g_law_pairs := PySem.W.mg_of X G a26, b_law_pairs := b26, F_law_led := F27, g_law_led := PySem.W.mg_of X G a27, b_law_led := b27, F_law_is_closed_list := F28, g_law_is_closed_list := PySem.W.mg_of X G a28, b_law_is_closed_list := b28, F_law_wider := F29, g_law_wider := PySem.W.mg_of X G a29, b_law_wider := b29, F_law := F30, g_law := PySem.W.mg_of X G a30, b_law := b30, g_FEWEST_WORDS := PySem.W.mg_of X G z_FEWEST_WORDS, g_LONGEST := PySem.W.mg_of X G z_LONGEST, g_LONGEST_LISTED := PySem.W.mg_of X G z_LONGEST_LISTED, g_LONGEST_START := PySem.W.mg_of X G z_LONGEST_START, g_LONGEST_WORD := PySem.W.mg_of X G z_LONGEST_WORD, g_MOST_WORDS := PySem.W.mg_of X G z_MOST_WORDS, g_SHORTEST := PySem.W.mg_of X G z_SHORTEST, g_SMALL := PySem.W.mg_of X G z_SMALL, bool := PySem.W.mg_none_of X G z_bool, enumerate := PySem.W.mg_none_of X G z_enumerate, int := PySem.W.mg_none_of X G z_int, isinstance := PySem.W.mg_none_of X G z_isinstance, len := PySem.W.mg_none_of X G z_len, list := PySem.W.mg_none_of X G z_list, range := PySem.W.mg_none_of X G z_range, repr := PySem.W.mg_none_of X G z_repr, set := PySem.W.mg_none_of X G z_set, sorted := PySem.W.mg_none_of X G z_sorted, str := PySem.W.mg_none_of X G z_str, tuple := PySem.W.mg_none_of X G z_tuple, g_InvalidNumber := PySem.W.mg_of X G z_InvalidNumber, g_InvalidRule := PySem.W.mg_of X G z_InvalidRule, g_PatternError := PySem.W.mg_of X G z_PatternError }
  exact ⟨_, fun s v => .of_eq rfl, fun base _ _ => ok_law T⟩
end Lw
open PySem PySem.W PyProof.Rows
set_option maxRecDepth 100000 in
set_option maxHeartbeats 0 in
theorem PySem.Challenge.cw_surepatterns_k25_closed_lists_of_cuts_holds : PySem.Challenge.rw_surepatterns_k25_closed_lists_of_cuts.Holds := by
  w_on; o_law; k_head; (case hw => w_witness2)
  k_fill
  refine Lw.walk_ofG (l := PySem.Challenge.rw_surepatterns_k25_closed_lists_of_cuts) (k := 7) (sp := fun w => Lw.spTop _) rfl rfl ⟨rfl, by decide, by decide⟩ (fun w h Y => PySem.W.kIn_of Y) ?F (fun _ _ a ns hl _ hS => ⟨a, ns, rfl, hS, hl, fun _ => rfl⟩)
  case F =>
    intro w mg fa h KX G hmg
    refine' Lw.all_mk KX G hmg ?a0 ?l0 ?c0 ?k0 ?a1 ?l1 ?c1 ?k1 ?a2 ?l2 ?c2 ?k2 ?a3 ?l3 ?c3 ?k3 ?a4 ?l4 ?c4 ?k4 ?a5 ?l5 ?c5 ?k5 ?a6 ?l6 ?c6 ?k6 ?a7 ?l7 ?c7 ?k7 ?a8 ?l8 ?c8 ?k8 ?a9 ?l9 ?c9 ?k9 ?a10 ?l10 ?c10 ?k10 ?a11 ?l11 ?c11 ?k11 ?a12 ?l12 ?c12 ?k12 ?a13 ?l13 ?c13 ?k13 ?a14 ?l14 ?c14 ?k14 ?a15 ?l15 ?c15 ?k15 ?a16 ?l16 ?c16 ?k16 ?a17 ?l17 ?c17 ?k17 ?a18 ?l18 ?c18 ?k18 ?a19 ?l19 ?c19 ?k19 ?a20 ?l20 ?c20 ?k20 ?a21 ?l21 ?c21 ?k21 ?a22 ?l22 ?c22 ?k22 ?a23 ?l23 ?c23 ?k23 ?a24 ?l24 ?c24 ?k24 ?a25 ?l25 ?c25 ?k25 ?a26 ?l26 ?c26 ?k26 ?a27 ?l27 ?c27 ?k27 ?a28 ?l28 ?c28 ?k28 ?a29 ?l29 ?c29 ?k29 ?a30 ?l30 ?c30 ?k30 ?z_FEWEST_WORDS ?z_LONGEST ?z_LONGEST_LISTED ?z_LONGEST_START ?z_LONGEST_WORD ?z_MOST_WORDS ?z_SHORTEST ?z_SMALL ?z_bool ?z_enumerate ?z_int ?z_isinstance ?z_len ?z_list ?z_range ?z_repr ?z_set ?z_sorted ?z_str ?z_tuple ?z_InvalidNumber ?z_InvalidRule ?z_PatternError
    (case a0 => k_is)
    (case l0 => k_is)
    (case c0 => k_is)
    (case k0 => k_is)
    (case a1 => k_is)
    (case l1 => k_is)
    (case c1 => k_is)
    (case k1 => k_is)
    (case a2 => k_is)
    (case l2 => k_is)
    (case c2 => k_is)
    (case k2 => k_is)
    (case a3 => k_is)
    (case l3 => k_is)
    (case c3 => k_is)
    (case k3 => k_is)
    (case a4 => k_is)
    (case l4 => k_is)
    (case c4 => k_is)
    (case k4 => k_is)
    (case a5 => k_is)
    (case l5 => k_is)
    (case c5 => k_is)
    (case k5 => k_is)
    (case a6 => k_is)
    (case l6 => k_is)
    (case c6 => k_is)
    (case k6 => k_is)
    (case a7 => k_is)
    (case l7 => k_is)
    (case c7 => k_is)
    (case k7 => k_is)
    (case a8 => k_is)
    (case l8 => k_is)
    (case c8 => k_is)
    (case k8 => k_is)
    (case a9 => k_is)
    (case l9 => k_is)
    (case c9 => k_is)
    (case k9 => k_is)
    (case a10 => k_is)
    (case l10 => k_is)
    (case c10 => k_is)
    (case k10 => k_is)
    (case a11 => k_is)
    (case l11 => k_is)
    (case c11 => k_is)
    (case k11 => k_is)
    (case a12 => k_is)
    (case l12 => k_is)
    (case c12 => k_is)
    (case k12 => k_is)
    (case a13 => k_is)
    (case l13 => k_is)
    (case c13 => k_is)
    (case k13 => k_is)
    (case a14 => k_is)
    (case l14 => k_is)
    (case c14 => k_is)
    (case k14 => k_is)
    (case a15 => k_is)
    (case l15 => k_is)
    (case c15 => k_is)
    (case k15 => k_is)
    (case a16 => k_is)
    (case l16 => k_is)
    (case c16 => k_is)
    (case k16 => k_is)
    (case a17 => k_is)
    (case l17 => k_is)
    (case c17 => k_is)
    (case k17 => k_is)
    (case a18 => k_is)
    (case l18 => k_is)
    (case c18 => k_is)
    (case k18 => k_is)
    (case a19 => k_is)
    (case l19 => k_is)
    (case c19 => k_is)
    (case k19 => k_is)
    (case a20 => k_is)
    (case l20 => k_is)
    (case c20 => k_is)
    (case k20 => k_is)
    (case a21 => k_is)
    (case l21 => k_is)
    (case c21 => k_is)
    (case k21 => k_is)
    (case a22 => k_is)
    (case l22 => k_is)
    (case c22 => k_is)
    (case k22 => k_is)
    (case a23 => k_is)
    (case l23 => k_is)
    (case c23 => k_is)
    (case k23 => k_is)
    (case a24 => k_is)
    (case l24 => k_is)
    (case c24 => k_is)
    (case k24 => k_is)
    (case a25 => k_is)
    (case l25 => k_is)
    (case c25 => k_is)
    (case k25 => k_is)
    (case a26 => k_is)
    (case l26 => k_is)
    (case c26 => k_is)
    (case k26 => k_is)
    (case a27 => k_is)
    (case l27 => k_is)
    (case c27 => k_is)
    (case k27 => k_is)
    (case a28 => k_is)
    (case l28 => k_is)
    (case c28 => k_is)
    (case k28 => k_is)
    (case a29 => k_is)
    (case l29 => k_is)
    (case c29 => k_is)
    (case k29 => k_is)
    (case a30 => k_is)
    (case l30 => k_is)
    (case c30 => k_is)
    (case k30 => k_is)
    (case z_FEWEST_WORDS => k_is)
    (case z_LONGEST => k_is)
    (case z_LONGEST_LISTED => k_is)
    (case z_LONGEST_START => k_is)
    (case z_LONGEST_WORD => k_is)
    (case z_MOST_WORDS => k_is)
    (case z_SHORTEST => k_is)
    (case z_SMALL => k_is)
    (case z_bool => k_is)
    (case z_enumerate => k_is)
    (case z_int => k_is)
    (case z_isinstance => k_is)
    (case z_len => k_is)
    (case z_list => k_is)
    (case z_range => k_is)
    (case z_repr => k_is)
    (case z_set => k_is)
    (case z_sorted => k_is)
    (case z_str => k_is)
    (case z_tuple => k_is)
    (case z_InvalidNumber => k_is)
    (case z_InvalidRule => k_is)
    (case z_PatternError => k_is)
