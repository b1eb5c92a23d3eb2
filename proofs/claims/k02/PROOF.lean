import PyProof.Rows.All
import Wide.All
import OpenK.AllK
import Wide.FinOn
import HandS.ForMost
import HandS.IsInst
import HandS.More
import HandS.Replace
import HandS.StrMore
import HandS.Style
import HandS.TupAny
import HandS.Walk
import HandS.Codes
import HandS.ForExc
import HandS.ExcIs
import PyProof.ReprRoads
import PyProof.Rows.CountFlat
import HandS.ReplaceList
import PySem.Challenge.RW_surepatterns_k02_letters_and_normal_form
set_option Elab.async false
set_option linter.all false
set_option maxRecDepth 100000

namespace Lw
open PySem PySem.Spec PyProof.Rows L2
/-! ### short words for the readings: rd (what is known), n1 .. n6 (a new object), w1 .. w4 (a store) -/
local macro_rules | `(tactic| walk_at "rd1") => `(tactic| first | refine ⟨_, rfl, ?_⟩ | refine ⟨_, _, rfl, rfl, ?_⟩)
local macro_rules | `(tactic| walk_at "rd") => `(tactic| repeat walk_at "rd1")
set_option hygiene false in
local macro_rules | `(tactic| walk_at "n1") => `(tactic| (intro l1 n1; generalize h1 : upd _ l1 _ = H1; obtain ⟨S1, e1⟩ := nw h1 n1; clear h1))
set_option hygiene false in
local macro_rules | `(tactic| walk_at "n2") => `(tactic| (intro l2 n2; generalize h2 : upd _ l2 _ = H2; obtain ⟨S2, e2⟩ := nw h2 n2; clear h2))
set_option hygiene false in
local macro_rules | `(tactic| walk_at "n3") => `(tactic| (intro l3 n3; generalize h3 : upd _ l3 _ = H3; obtain ⟨S3, e3⟩ := nw h3 n3; clear h3))
set_option hygiene false in
local macro_rules | `(tactic| walk_at "n4") => `(tactic| (intro l4 n4; generalize h4 : upd _ l4 _ = H4; obtain ⟨S4, e4⟩ := nw h4 n4; clear h4))
set_option hygiene false in
local macro_rules | `(tactic| walk_at "n5") => `(tactic| (intro l5 n5; generalize h5 : upd _ l5 _ = H5; obtain ⟨S5, e5⟩ := nw h5 n5; clear h5))
set_option hygiene false in
local macro_rules | `(tactic| walk_at "n6") => `(tactic| (intro l6 n6; generalize h6 : upd _ l6 _ = H6; obtain ⟨S6, e6⟩ := nw h6 n6; clear h6))
set_option hygiene false in
local macro_rules | `(tactic| walk_at "n7") => `(tactic| (intro l7 n7; generalize h7 : upd _ l7 _ = H7; obtain ⟨S7, e7⟩ := nw h7 n7; clear h7))
set_option hygiene false in
local macro_rules | `(tactic| walk_at "n8") => `(tactic| (intro l8 n8; generalize h8 : upd _ l8 _ = H8; obtain ⟨S8, e8⟩ := nw h8 n8; clear h8))
set_option hygiene false in
local macro_rules | `(tactic| walk_at "n9") => `(tactic| (intro l9 n9; generalize h9 : upd _ l9 _ = H9; obtain ⟨S9, e9⟩ := nw h9 n9; clear h9))
set_option hygiene false in
local macro_rules | `(tactic| walk_at "w1") => `(tactic| (generalize h1 : upd _ _ _ = G1; obtain ⟨B1, f1⟩ := pt h1; clear h1))
set_option hygiene false in
local macro_rules | `(tactic| walk_at "w2") => `(tactic| (generalize h2 : upd _ _ _ = G2; obtain ⟨B2, f2⟩ := pt h2; clear h2))
set_option hygiene false in
local macro_rules | `(tactic| walk_at "w3") => `(tactic| (generalize h3 : upd _ _ _ = G3; obtain ⟨B3, f3⟩ := pt h3; clear h3))
set_option hygiene false in
local macro_rules | `(tactic| walk_at "w4") => `(tactic| (generalize h4 : upd _ _ _ = G4; obtain ⟨B4, f4⟩ := pt h4; clear h4))
set_option hygiene false in
local macro_rules | `(tactic| walk_at "w5") => `(tactic| (generalize h5 : upd _ _ _ = G5; obtain ⟨B5, f5⟩ := pt h5; clear h5))
set_option hygiene false in
local macro_rules | `(tactic| walk_at "n10") => `(tactic| (intro l10 n10; generalize h10 : upd _ l10 _ = H10; obtain ⟨S10, e10⟩ := nw h10 n10; clear h10))
set_option hygiene false in
local macro_rules | `(tactic| walk_at "n11") => `(tactic| (intro l11 n11; generalize h11 : upd _ l11 _ = H11; obtain ⟨S11, e11⟩ := nw h11 n11; clear h11))
set_option hygiene false in
local macro_rules | `(tactic| walk_at "n12") => `(tactic| (intro l12 n12; generalize h12 : upd _ l12 _ = H12; obtain ⟨S12, e12⟩ := nw h12 n12; clear h12))
set_option hygiene false in
local macro_rules | `(tactic| walk_at "n13") => `(tactic| (intro l13 n13; generalize h13 : upd _ l13 _ = H13; obtain ⟨S13, e13⟩ := nw h13 n13; clear h13))
set_option hygiene false in
local macro_rules | `(tactic| walk_at "n14") => `(tactic| (intro l14 n14; generalize h14 : upd _ l14 _ = H14; obtain ⟨S14, e14⟩ := nw h14 n14; clear h14))
set_option hygiene false in
local macro_rules | `(tactic| walk_at "n15") => `(tactic| (intro l15 n15; generalize h15 : upd _ l15 _ = H15; obtain ⟨S15, e15⟩ := nw h15 n15; clear h15))
set_option hygiene false in
local macro_rules | `(tactic| walk_at "n16") => `(tactic| (intro l16 n16; generalize h16 : upd _ l16 _ = H16; obtain ⟨S16, e16⟩ := nw h16 n16; clear h16))
set_option hygiene false in
local macro_rules | `(tactic| walk_at "n17") => `(tactic| (intro l17 n17; generalize h17 : upd _ l17 _ = H17; obtain ⟨S17, e17⟩ := nw h17 n17; clear h17))
set_option hygiene false in
local macro_rules | `(tactic| walk_at "n18") => `(tactic| (intro l18 n18; generalize h18 : upd _ l18 _ = H18; obtain ⟨S18, e18⟩ := nw h18 n18; clear h18))
set_option hygiene false in
local macro_rules | `(tactic| walk_at "n19") => `(tactic| (intro l19 n19; generalize h19 : upd _ l19 _ = H19; obtain ⟨S19, e19⟩ := nw h19 n19; clear h19))
set_option hygiene false in
local macro_rules | `(tactic| walk_at "n20") => `(tactic| (intro l20 n20; generalize h20 : upd _ l20 _ = H20; obtain ⟨S20, e20⟩ := nw h20 n20; clear h20))

/-! ### heaps -/
/-- all but what stands at p is as it was -/
def But (p : Addr) (H H' : Hp) : Prop := ∀ b o, b ≠ p → H b = some o → H' b = some o
theorem But.refl (p : Addr) (H : Hp) : But p H H := fun _ _ _ h => h
theorem But.trans {p : Addr} {H H1 H2 : Hp} (a : But p H H1) (b : But p H1 H2) : But p H H2 := fun c o n h => b c o n (a c o n h)
theorem But.of_same {p : Addr} {H H1 : Hp} (a : Same H H1) : But p H H1 := fun c o _ h => a c o h
theorem But.upd_at {p : Addr} {H H1 : Hp} {o : HO} (a : But p H H1) : But p H (upd H1 p o) := fun c u n h => by
  rw [upd_ne n]; exact a c u n h
theorem But.new {p q : Addr} {H H1 : Hp} {o : HO} (a : But p H H1) (hq : H1 q = none) : But p H (upd H1 q o) := fun c u n h => by
  rw [upd_ne (ne_of_none (a c u n h) hq)]; exact a c u n h
/-- a change at an address that was free at the start -/
theorem But.own {p q : Addr} {H H1 : Hp} {o : HO} (a : But p H H1) (hq : H q = none) : But p H (upd H1 q o) := fun c u n h => by
  rw [upd_ne (ne_of_none h hq)]; exact a c u n h
theorem But.free {p q : Addr} {H H1 : Hp} (a : But p H H1) (h : H1 q = none) (n : q ≠ p) : H q = none := by
  cases e : H q with
  | none => rfl
  | some o => rw [a q o n e] at h; cases h
theorem _root_.L2.Same.new {H : Hp} {q : Addr} {o : HO} (hq : H q = none) : Same H (upd H q o) := fun c u h => by
  rw [upd_ne (ne_of_none h hq)]; exact h
theorem _root_.L2.Same.own {H H1 : Hp} {q : Addr} {o : HO} (s : Same H H1) (hq : H q = none) : Same H (upd H1 q o) := fun c u h => by
  rw [upd_ne (ne_of_none h hq)]; exact s c u h
theorem But.seq {K : PySem.W.Frag} {p a : Addr} {H H' : Hp} {xs : List V} (e : But p H H') (n : a ≠ p) (h : SqL K H a xs) : SqL K H' a xs := by
  rcases h with (h | ⟨o, h⟩) | h
  · exact .inl (.inl (e _ _ n h))
  · exact .inl (.inr ⟨o, e _ _ n h⟩)
  · exact .inr h
theorem But.tup {K : PySem.W.Frag} {p a : Addr} {H H' : Hp} {xs : List V} (e : But p H H') (n : a ≠ p) (h : SqT K H a xs) : SqT K H' a xs := by
  rcases h with (h | ⟨o, h⟩) | h
  · exact .inl (.inl (e _ _ n h))
  · exact .inl (.inr ⟨o, e _ _ n h⟩)
  · exact .inr h
theorem sl_of {n : Nat} (h : n ≤ 100000) : n ≤ sizeLine := Nat.le_trans h (by decide)
theorem slt_of {n : Nat} (h : n < 100000) : n < sizeLine := Nat.lt_of_lt_of_le h (by decide)

/-! ### the pen: a list of a list of ints, the number of draws, what is left of the last one -/
def PenAt (H : Hp) (p c : Addr) (ns : List Int) (i z : Int) : Prop := H p = some (.lst [.ref c, .int i, .int z]) ∧ H c = some (.lst (ns.map V.int)) ∧ ns.length ≤ 12
def Pen (H : Hp) (p c : Addr) (n : Nat) : Prop := ∃ ns i z, PenAt H p c ns i z ∧ 0 ≤ i ∧ i ≤ (n : Int)
theorem PenAt.ne {H : Hp} {p c : Addr} {ns : List Int} {i z : Int} (h : PenAt H p c ns i z) : c ≠ p := by
  refine ne_of h.2.1 h.1 fun e => ?_
  injection e with e
  cases ns with
  | nil => cases e
  | cons x r => rw [List.map_cons] at e; injection e with e _; cases e
theorem Pen.mono {H : Hp} {p c : Addr} {n m : Nat} (h : Pen H p c n) (l : n ≤ m) : Pen H p c m := by
  obtain ⟨ns, i, z, a, b, d⟩ := h
  exact ⟨ns, i, z, a, b, by omega⟩
theorem Pen.same {H H' : Hp} {p c : Addr} {n : Nat} (h : Pen H p c n) (s : Same H H') : Pen H' p c n := by
  obtain ⟨ns, i, z, ⟨a1, a2, a3⟩, b, d⟩ := h
  exact ⟨ns, i, z, ⟨s _ _ a1, s _ _ a2, a3⟩, b, d⟩
theorem Pen.new {H : Hp} {p c q : Addr} {n : Nat} {o : HO} (h : Pen H p c n) (hq : H q = none) : Pen (upd H q o) p c n := h.same (Same.new hq)
theorem Pen.ne_free {H : Hp} {p c q : Addr} {n : Nat} (h : Pen H p c n) (hq : H q = none) : q ≠ p ∧ q ≠ c := by
  obtain ⟨ns, i, z, ⟨a1, a2, _⟩, _⟩ := h
  exact ⟨(ne_of_none a1 hq).symm, (ne_of_none a2 hq).symm⟩
/-- a store to what was made behind the pen -/
theorem Pen.list {H : Hp} {p c q : Addr} {n : Nat} {o : HO} (h : Pen H p c n) (hq : q ≠ p ∧ q ≠ c) : Pen (upd H q o) p c n := by
  obtain ⟨ns, i, z, ⟨a1, a2, a3⟩, b, d⟩ := h
  exact ⟨ns, i, z, ⟨by rw [upd_ne hq.1.symm]; exact a1, by rw [upd_ne hq.2.symm]; exact a2, a3⟩, b, d⟩
theorem mod13 (a : Int) : 0 ≤ a % 13 ∧ a % 13 < 13 := ⟨Int.emod_nonneg _ (by decide), Int.emod_lt_of_pos _ (by decide)⟩
theorem nw {H H1 : Hp} {p : Addr} {o : HO} (h : upd H p o = H1) (n : H p = none) : Same H H1 ∧ H1 p = some o := h ▸ ⟨Same.new n, upd_same⟩
theorem pt {H H1 : Hp} {p : Addr} {o : HO} (h : upd H p o = H1) : But p H H1 ∧ H1 p = some o := h ▸ ⟨(But.refl p H).upd_at, upd_same⟩

/-! ### the law's mixing: bounds alone -/
def primesL : List Int := [2147483629, 2147483587, 2147483579, 2147483563, 2147483549, 2147483543, 2147483497, 2147483489, 2147483477, 2147483423, 2147483399, 2147483353, 2147483323]
theorem primes_fin : ∀ j : Fin 13, 2147483323 ≤ primesL[j] ∧ primesL[j] ≤ 2147483629 := by decide
theorem primes_at (a : Int) : ∃ q : Int, atI (primesL.map V.int) (a % 13) = some (.int q) ∧ 2147483323 ≤ q ∧ q ≤ 2147483629 := by
  obtain ⟨h0, h1⟩ := mod13 a
  obtain ⟨j, hj⟩ := Int.eq_ofNat_of_zero_le h0
  have hl : j < 13 := by omega
  refine ⟨primesL[(⟨j, hl⟩ : Fin 13)], ?_, primes_fin ⟨j, hl⟩⟩
  rw [hj]
  refine atI_nat ?_
  rw [List.getElem?_map, List.getElem?_eq_getElem (show j < primesL.length from hl)]
  rfl
theorem mul_in {x y : Int} {m n : Int} (h0 : 0 ≤ x) (h1 : x ≤ m) (h2 : 0 ≤ y) (h3 : y ≤ n) : 0 ≤ x * y ∧ x * y ≤ m * n :=
  ⟨Int.mul_nonneg h0 h2, Int.mul_le_mul h1 h3 h2 (by omega)⟩
theorem mixed_lt (c a : Int) (h0 : 0 ≤ a) (h1 : a ≤ 1048576) : (c % 1000000007 * (2 * a + 69069) + a * 40503 + 977).natAbs < 2 ^ 64 := by
  have := mul_in (x := c % 1000000007) (y := 2 * a + 69069) (m := 1000000006) (n := 4000000) (by omega) (by omega) (by omega) (by omega)
  omega
theorem two_lt (c a o : Int) (h0 : 0 ≤ a) (h1 : a ≤ 1048576) (h2 : 0 ≤ o) (h3 : o ≤ 2147483629) : (o * (a + 3) + c % 65537 + 5).natAbs < 2 ^ 64 := by
  have := mul_in (x := o) (y := a + 3) (m := 2147483629) (n := 4000000) (by omega) (by omega) (by omega) (by omega)
  omega
theorem three_lt (a o t : Int) (h0 : 0 ≤ a) (h1 : a ≤ 1048576) (h2 : 0 ≤ t) (h3 : t ≤ 2147483629) : (t + o % 1009 + a).natAbs < 2 ^ 64 := by omega
theorem rest_in {x q : Int} (h1 : 2147483323 ≤ q) (h2 : q ≤ 2147483629) : 0 ≤ x % q ∧ x % q ≤ 2147483629 :=
  ⟨Int.emod_nonneg _ (by omega), by have := Int.emod_lt_of_pos x (show 0 < q by omega); omega⟩
/-! ### slices -/
def cutL {α : Type} (xs : List α) (lo hi : Option Int) : List α := (xs.drop (HT.sIx xs.length 0 lo)).take (HT.sIx xs.length xs.length hi - HT.sIx xs.length 0 lo)
theorem cutV_L (xs : List V) (lo hi : Option Int) : cutV xs lo hi = cutL xs lo hi := rfl
theorem cutL_map {α β : Type} (f : α → β) (xs : List α) (lo hi : Option Int) : cutL (xs.map f) lo hi = (cutL xs lo hi).map f := by
  unfold cutL
  rw [List.length_map, List.map_take, List.map_drop]
theorem cutL_pre {α : Type} (xs : List α) (k : Nat) : cutL xs none (some (k : Int)) = xs.take k := by
  unfold cutL
  rw [HT.sIx_none, HT.sIx_nat, List.drop_zero, Nat.sub_zero]
  by_cases h : k ≤ xs.length
  · rw [Nat.min_eq_left h]
  · rw [Nat.min_eq_right (by omega), List.take_length, List.take_of_length_le (by omega)]
theorem cutL_suf {α : Type} (xs : List α) (k : Nat) : cutL xs (some (k : Int)) none = xs.drop k := by
  unfold cutL
  rw [HT.sIx_none, HT.sIx_nat]
  by_cases h : k ≤ xs.length
  · rw [Nat.min_eq_left h, List.take_of_length_le (by rw [List.length_drop]; omega)]
  · rw [Nat.min_eq_right (by omega), List.drop_length, List.take_nil, List.drop_of_length_le (by omega)]
theorem cutL_mid {α : Type} (xs : List α) (j k : Nat) : cutL xs (some (j : Int)) (some (k : Int)) = (xs.take k).drop j := by
  unfold cutL
  rw [HT.sIx_nat, HT.sIx_nat]
  by_cases h : k ≤ xs.length
  · rw [Nat.min_eq_left h]
    by_cases h2 : j ≤ xs.length
    · rw [Nat.min_eq_left h2, List.drop_take]
    · rw [Nat.min_eq_right (by omega), List.drop_length, List.take_nil, List.drop_of_length_le (by rw [List.length_take]; omega)]
  · rw [Nat.min_eq_right (show xs.length ≤ k by omega), List.take_of_length_le (show xs.length ≤ k by omega)]
    by_cases h2 : j ≤ xs.length
    · rw [Nat.min_eq_left h2, List.take_of_length_le (by rw [List.length_drop]; omega)]
    · rw [Nat.min_eq_right (by omega), List.drop_length, List.take_nil, List.drop_of_length_le (by omega)]
theorem ix12 {n : Nat} (i : Nat) (h : 12 ≤ n) : ixN n ((i : Int) % 12) = some (i % 12) := by
  unfold ixN
  rw [if_pos (by omega), if_pos (by omega)]
  congr 1
def vN (k : Nat) : V := .int (k : Int)
theorem walk_rangeN {n : Nat} : Walk (Itr 0 n) n (fun _ => True) (YFn vN) := walk_range.mono (fun _ h => h) fun i H x H' _ _ y => ⟨y.1, by
  rw [y.2]
  show V.int (0 + (i : Int)) = V.int (i : Int)
  rw [Int.zero_add]⟩
/-- a comprehension's turn without a test -/
theorem yesT {σ : L2.St} {H : Hp} {A B : Hp → Prop} (h : A H) : tYes σ H fun b H3 => if b = true then A H3 else B H3 := by
  show (if true = true then A H else B H)
  rw [if_pos rfl]
  exact h
/-- a comprehension without a test whose turns change nothing -/
theorem lc_map {α : Type} {J : It} {G : Hp → Prop} {Y : Nat → Hp → V → Hp → Prop} (xs : List α) (f : α → V) (w : Walk J xs.length G Y) {g : TG} {te : TE} {vs : List Nat} {σ : L2.St} {H1 : Hp} {D : Addr} {Qd : Hp → Prop}
    (hD : H1 D = none) (hn : xs.length ≤ 100000) (hG : ∀ H', Same H1 H' → G H')
    (hs : ∀ i a x H' H'' (R : VK), xs[i]? = some a → Same H1 H' → Y i H' x H'' → (∀ H4, Same H' H4 → R (f a) H4) → g x (wipe σ vs) H'' fun σ2 H2 => wipe σ2 vs = wipe σ vs ∧ te σ2 H2 R)
    (hd : ∀ H', Same H1 H' → H' D = some (.lst (xs.map f)) → Qd H') :
    ∃ W : Nat → Nat → Hp → Prop, (∃ m, W 0 m (upd H1 D (.lst []))) ∧ ∀ i m H, W i m H →
      (J.stop i H ∧ Qd H) ∨ (J.go i H ∧ ∃ Nx : Hp → Prop, (∀ H', Nx H' → ∃ m', m' < m ∧ W (i + 1) m' H') ∧ ∀ x H', J.yld i H x H' → g x (wipe σ vs) H' fun σ2 H2 => wipe σ2 vs = wipe σ vs ∧ tYes σ2 H2 fun b H3 =>
        if b = true then te σ2 H3 fun y H4 => ∃ acc, H4 D = some (.lst acc) ∧ acc.length < sizeLine ∧ Nx (upd H4 D (.lst (acc ++ [y]))) else Nx H3) := by
  refine lc_it w (fun i H' => Same H1 H' ∧ H' D = some (.lst ((xs.take i).map f))) ⟨Same.new hD, upd_same⟩ (fun i H _ h => hG H h.1) (fun i x H' H'' hi h y => ?_) (fun H h => ?_)
  · obtain ⟨a, ha⟩ : ∃ a, xs[i]? = some a := ⟨_, List.getElem?_eq_getElem hi⟩
    have q := hs i a x H' H'' (fun y H4 => ∃ acc, H4 D = some (.lst acc) ∧ acc.length < sizeLine ∧ Same H1 (upd H4 D (.lst (acc ++ [y]))) ∧ (upd H4 D (.lst (acc ++ [y]))) D = some (.lst ((xs.take (i + 1)).map f))) ha h.1 y (fun H4 s => ?_)
    · exact q
    · refine ⟨_, s _ _ h.2, ?_, (h.1.trans s).own hD, ?_⟩
      · rw [List.length_map, List.length_take, sizeLine_eq]
        omega
      · rw [upd_same, List.take_add_one, ha, Option.toList_some, List.map_append]
        rfl
  · rw [List.take_length] at h
    exact hd H h.1 h.2
/-! ### rules with the written part named (within comprehensions) -/
section
variable {X : Cx} {K : PySem.W.Frag}
theorem ix_listK (h : X.K = K := by rfl) : IxR X (rIxL K) := h ▸ ix_list
theorem ix_tupK (h : X.K = K := by rfl) : IxR X (rIxT K) := h ▸ ix_tup
theorem sl_listK (h : X.K = K := by rfl) : SlR X (rSlL K) := h ▸ sl_list
theorem sl_tupAK (h : X.K = K := by rfl) : SlR X (rSlA K) := h ▸ sl_tupA
theorem call_lenK (h : X.K = K := by rfl) : CallR X (.builtin "len") (fun xs H Q => ∃ p ys, xs = [.ref p] ∧ (SqL K H p ys ∨ SqT K H p ys) ∧ Q (.int ys.length) H) := h ▸ call_len_seq
theorem call_listK (h : X.K = K := by rfl) : CallR X (.type "list") (fun xs H Q => ∃ p ys, xs = [.ref p] ∧ (SqL K H p ys ∨ SqT K H p ys) ∧ ∀ l, H l = none → Q (.ref l) (upd H l (.lst ys))) := h ▸ call_list_of
theorem op_inK (h : X.K = K := by rfl) : OpR X (compareOp .In) (rIn K false) := h ▸ op_in_seq
theorem op_notInK (h : X.K = K := by rfl) : OpR X (compareOp .NotIn) (rIn K true) := h ▸ op_notIn_seq
end

/-! ### texts as lists of code points -/
open SX (S)
theorem len_S (l : List Nat) : (S l).length = l.length := SX.S_len l
theorem ip_addS {X : Cx} : PIp X .Add (fun x y H Q => ∃ i j, x = .str i ∧ y = .str j ∧ i.length + j.length ≤ sizeLine ∧ Q (.str (i ++ j)) H) := iop_add_str
/-- text * number -/
def rRepS : R2 := fun x y H Q => ∃ z n, x = .str z ∧ y = .int n ∧ PySem.MulOk z n ∧ Q (.str (Txt.mul z n)) H
theorem op_repS {X : Cx} : OpR X (binaryOp .Mult) rRepS := by
  intro pins s σ H x y v u Q I rx ry h
  obtain ⟨z, n, rfl, rfl, ok, q⟩ := h
  obtain ⟨t, rfl⟩ := rx
  obtain ⟨t', rfl⟩ := ry
  exact PySem.SB.mul ok fun t' k => ⟨.str (Txt.mul z n), H, I.tok k, ⟨t', rfl⟩, q⟩
theorem mul_app (l : List Nat) : ∀ (n : Nat) (acc : List Nat), ((List.replicate n l.toArray).foldl (· ++ ·) acc.toArray) = (acc ++ (List.replicate n l).flatten).toArray
  | 0, acc => by simp
  | n + 1, acc => by
    rw [List.replicate_succ, List.foldl_cons, List.append_toArray, mul_app l n (acc ++ l), List.replicate_succ, List.flatten_cons, List.append_assoc]
theorem mul_S (l : List Nat) (n : Nat) : Txt.mul (S l) (n : Int) = S (List.replicate n l).flatten := by
  unfold Txt.mul
  by_cases h0 : (n : Int) < 1
  · have e : n = 0 := by omega
    subst e
    rw [if_pos h0]
    rfl
  · rw [if_neg h0]
    by_cases h1 : ((n : Int) == 1 || (S l).length == 0) = true
    · rw [if_pos h1]
      rcases Bool.or_eq_true_iff.mp h1 with h | h
      · have e : (n : Int) = 1 := eq_of_beq h
        have e2 : n = 1 := by omega
        subst e2
        simp
      · have e : (S l).length = 0 := eq_of_beq h
        rw [len_S] at e
        have e2 : l = [] := List.length_eq_zero_iff.mp e
        subst e2
        congr 1
        have : ∀ m : Nat, (List.replicate m ([] : List Nat)).flatten = [] := fun m => by
          induction m with
          | zero => rfl
          | succ m ih => rw [List.replicate_succ, List.flatten_cons, ih] <;> rfl
        rw [this]
    · rw [if_neg h1, Int.toNat_natCast]
      congr 1
      exact mul_app l n []
theorem mulOk_S {l : List Nat} {n : Nat} (h : l.length * n ≤ 100000) (hn : n ≤ 100000) : PySem.MulOk (S l) (n : Int) := by
  refine ⟨?_, fun h1 h2 => ?_, fun h1 h2 => ?_⟩
  · rw [decide_eq_false (by omega), decide_eq_false (by omega)] <;> rfl
  · rw [len_S]
    have h3 : ((l.length : Nat) : Int) * n ≤ 100000 := by
      rw [← Int.natCast_mul]
      omega
    have h4 : (1 : Int) ≤ n := by omega
    have h5 : (l.length : Int) ≤ (2 ^ 63 - 1) / (n : Int) := by
      refine (Int.le_ediv_iff_mul_le (by omega)).mpr ?_
      omega
    omega
  · rw [len_S, Int.toNat_natCast]
    refine decide_eq_false ?_
    rw [sizeLine_eq]
    omega
/-- text.index(sign) that is there -/
def rIdx : V → List V → Hp → VK → Prop := fun x xs H Q => ∃ (l : List Nat) (c : Nat), x = .str (S l) ∧ xs = [.str (S [c])] ∧ c ∈ l ∧ Q (.int (l.idxOf c : Nat)) H
theorem occ_idx {l : List Nat} {c : Nat} (h : c ∈ l) : ∃ r, Builtin.Str.occurrences (S l) (S [c]) 0 (S l).length 1 = l.idxOf c :: r := by
  have hi : l.idxOf c < l.length := List.idxOf_lt_length_iff.mpr h
  have hg : l[l.idxOf c]? = some c := by
    rw [List.getElem?_eq_getElem hi, List.getElem_idxOf hi]
  rcases StrLaws.occ_head (S l) (S [c]) 1 (Nat.le_refl 1) with ⟨_, hn⟩ | ⟨i, r, e, ha, hn⟩
  · exact absurd ((StrLaws.subAt_one (S l) c (l.idxOf c)).mpr hg) (hn _)
  · refine ⟨r, ?_⟩
    rw [e]
    congr 1
    have h1 : l[i]? = some c := (StrLaws.subAt_one (S l) c i).mp ha
    by_cases h2 : l.idxOf c < i
    · exact absurd ((StrLaws.subAt_one (S l) c (l.idxOf c)).mpr hg) (hn _ h2)
    · by_cases h3 : i < l.idxOf c
      · have := List.not_of_lt_findIdx (p := (· == c)) (xs := l) (i := i) h3
        obtain ⟨hl, e1⟩ := List.getElem?_eq_some_iff.mp h1
        rw [e1] at this
        simp at this
      · omega
theorem mt_idx {X : Cx} : MtR X "str.index" rIdx := by
  intro pins s σ H x xs v us Q I rx rs h
  obtain ⟨l, c, rfl, rfl, hc, q⟩ := h
  obtain ⟨r, e⟩ := occ_idx hc
  exact mt_sindex pins s σ H _ _ v us Q I rx rs ⟨_, _, _, r, rfl, rfl, e, q⟩
theorem pe_idx {X : Cx} {o e : Expr} {to te : TE} {apos pos : Pos} (ho : PE X o to) (he : PE X e te)
    (hs : starEach [e] X.env = [(false, eval e X.env)] := by rfl) (hbase : attributeBase o "index" X.env (eval o X.env) = eval o X.env := by rfl) (hline : (apos.endLine == pos.line) = true := by rfl) :
    PE X (.Call (.Attribute o "index" apos) [e] [] pos) (tM1 rIdx to te) := pe_m1 PySem.F.slot_str_index PySem.F.type_str_index mt_idx ho he hs hbase hline
theorem walk_S {l : List Nat} : Walk (Its (S l)) l.length (fun _ => True) (fun i H v H' => H' = H ∧ ∃ c, l[i]? = some c ∧ v = .str (S [c])) :=
  (walk_str (z := S l)).mono (fun _ h => h) fun i H x H' _ _ y => by
    obtain ⟨e, c, h1, h2⟩ := y
    refine ⟨e, c, ?_, h2⟩
    rw [← h1]
    simp
theorem cutS_S (l : List Nat) (lo hi : Option Int) : cutS (S l) lo hi = S (cutL l lo hi) := by
  unfold cutS cutL
  rw [len_S]
theorem join0 (ys : List (List Nat)) : Txt.join (S []) (ys.map S) = S ys.flatten := by
  rw [SX.join_S]
  congr 1
  have : ∀ ys : List (List Nat), TL.joinL [] ys = ys.flatten := fun ys => by
    induction ys with
    | nil => rfl
    | cons x r ih =>
      cases r with
      | nil => simp [TL.joinL]
      | cons y r => show x ++ ([] ++ TL.joinL [] (y :: r)) = _; rw [ih]; rfl
  rw [this]
theorem flat1 {α : Type} (f : α → Nat) (l : List α) : (l.map fun x => [f x]).flatten = l.map f := by
  induction l with
  | nil => rfl
  | cons x r ih => rw [List.map_cons, List.flatten_cons, ih]; rfl
theorem snocInd {α : Type} {P : List α → Prop} (h0 : P []) (hs : ∀ l a, P l → P (l ++ [a])) (l : List α) : P l := by
  have : ∀ r : List α, P r.reverse := fun r => by
    induction r with
    | nil => exact h0
    | cons x r ih => rw [List.reverse_cons]; exact hs _ _ ih
  have h := this l.reverse
  rw [List.reverse_reverse] at h
  exact h
/-! ### the different signs of a text -/
def dist (l : List Nat) : List Nat := l.foldl (fun acc c => if c ∈ acc then acc else acc ++ [c]) []
theorem dist_snoc (l : List Nat) (c : Nat) : dist (l ++ [c]) = if c ∈ dist l then dist l else dist l ++ [c] := by
  unfold dist
  rw [List.foldl_append]
  rfl
theorem dist_len (l : List Nat) : (dist l).length ≤ l.length := by
  refine snocInd (P := fun l => (dist l).length ≤ l.length) (Nat.le_refl _) (fun l c ih => ?_) l
  rw [dist_snoc, List.length_append]
  by_cases h : c ∈ dist l
  · rw [if_pos h]; exact Nat.le_succ_of_le ih
  · rw [if_neg h, List.length_append]; exact Nat.add_le_add_right ih _
theorem mem_dist {l : List Nat} {c : Nat} : c ∈ dist l ↔ c ∈ l := by
  refine snocInd (P := fun l => c ∈ dist l ↔ c ∈ l) Iff.rfl (fun l d ih => ?_) l
  rw [dist_snoc, List.mem_append, List.mem_singleton]
  by_cases h : d ∈ dist l
  · rw [if_pos h, ih]
    refine ⟨.inl, fun z => z.elim id fun e => ?_⟩
    subst e; exact ih.mp h
  · rw [if_neg h, List.mem_append, List.mem_singleton, ih]
theorem dist_nodup (l : List Nat) : (dist l).Nodup := by
  refine snocInd (P := fun l => (dist l).Nodup) List.nodup_nil (fun l d ih => ?_) l
  rw [dist_snoc]
  by_cases h : d ∈ dist l
  · rw [if_pos h]; exact ih
  · rw [if_neg h]
    exact List.nodup_append.mpr ⟨ih, List.nodup_cons.mpr ⟨List.not_mem_nil, List.nodup_nil⟩, fun a ha b hb => by
      rw [List.mem_singleton] at hb; subst hb; intro e; subst e; exact h ha⟩
theorem sum_le {ls : List Nat} {b : Nat} (h : ∀ x ∈ ls, x ≤ b) : ls.sum ≤ ls.length * b := by
  induction ls with
  | nil => simp
  | cons x r ih =>
    rw [List.sum_cons, List.length_cons, Nat.succ_mul]
    have h1 := h x List.mem_cons_self
    have h2 := ih fun y hy => h y (List.mem_cons_of_mem _ hy)
    omega
theorem join_ok {ys : List (List Nat)} (b : Nat) (hb : ∀ y ∈ ys, y.length ≤ b) (h : ys.length * b ≤ 100000) : ((ys.map S).map (·.length)).sum + (ys.map S).length * (S []).length ≤ 16777216 := by
  rw [SX.lens]
  have h1 : (ys.map (·.length)).sum ≤ (ys.map (·.length)).length * b := sum_le fun x hx => by
    obtain ⟨y, hy, rfl⟩ := List.mem_map.mp hx
    exact hb y hy
  rw [List.length_map] at h1
  show _ + _ * 0 ≤ _
  omega
theorem join_ok1 {α : Type} {l : List α} (f : α → Nat) (h : l.length ≤ 100000) : (((l.map fun c => [f c]).map S).map (·.length)).sum + ((l.map fun c => [f c]).map S).length * (S []).length ≤ 16777216 :=
  join_ok 1 (fun y hy => by obtain ⟨x, _, rfl⟩ := List.mem_map.mp hy; exact Nat.le_refl 1) (by rw [List.length_map]; omega)
theorem map_sg {α : Type} (f : α → Nat) (l : List α) : l.map (fun c => V.str (S [f c])) = ((l.map fun c => [f c]).map S).map V.str := by
  rw [List.map_map, List.map_map]
  rfl
theorem nodup_len {α : Type} [DecidableEq α] : ∀ {l m : List α}, l.Nodup → (∀ x ∈ l, x ∈ m) → l.length ≤ m.length
  | [], _, _, _ => Nat.zero_le _
  | x :: r, m, h, hs => by
    obtain ⟨h1, h2⟩ := List.nodup_cons.mp h
    have hx : x ∈ m := hs x List.mem_cons_self
    have := nodup_len (m := m.erase x) h2 fun y hy => (List.mem_erase_of_ne (fun e => h1 (by rw [← e]; exact hy))).mpr (hs y (List.mem_cons_of_mem _ hy))
    rw [List.length_erase_of_mem hx] at this
    have hp : 0 < m.length := List.length_pos_of_mem hx
    rw [List.length_cons]
    omega
theorem dist_few {l m : List Nat} (h : ∀ c ∈ l, c ∈ m) : (dist l).length ≤ m.length := nodup_len (dist_nodup l) fun c hc => h c (mem_dist.mp hc)

/-! ### patterns -/
def capL : List Nat := [65, 66, 67, 68, 69, 70, 71, 72, 73, 74, 75, 76, 77, 78, 79, 80, 81, 82, 83, 84, 85, 86, 87, 88, 89, 90]
theorem capS : (("ABCDEFGHIJKLMNOPQRSTUVWXYZ" : String) : Str) = S capL := by decide +kernel
theorem cap_nodup : capL.Nodup := by decide
def allIn (l m : List Nat) : Bool := l.all fun c => decide (c ∈ m)
theorem allIn_iff {l m : List Nat} : allIn l m = true ↔ ∀ c ∈ l, c ∈ m := by
  unfold allIn
  rw [List.all_eq_true]
  exact ⟨fun h c hc => of_decide_eq_true (h c hc), fun h c hc => decide_eq_true (h c hc)⟩
def patB (l : List Nat) : Bool := (decide (1 ≤ l.length) && decide (l.length ≤ 20)) && (allIn l capL && decide ((dist l).length ≤ 7))
structure Pat (l : List Nat) : Prop where
  lo : 1 ≤ l.length
  hi : l.length ≤ 20
  cap : ∀ c ∈ l, c ∈ capL
  few : (dist l).length ≤ 7
theorem pat_iff {l : List Nat} : patB l = true ↔ Pat l := by
  unfold patB
  rw [Bool.and_eq_true, Bool.and_eq_true, Bool.and_eq_true, decide_eq_true_eq, decide_eq_true_eq, decide_eq_true_eq, allIn_iff]
  exact ⟨fun h => ⟨h.1.1, h.1.2, h.2.1, h.2.2⟩, fun h => ⟨⟨h.lo, h.hi⟩, h.cap, h.few⟩⟩
/-- the normal form -/
def nf (l : List Nat) : List Nat := l.map fun c => capL[(dist l).idxOf c]?.getD 0
theorem idx_dist_lt {l : List Nat} {c : Nat} (h : c ∈ l) : (dist l).idxOf c < (dist l).length := List.idxOf_lt_length_iff.mpr (mem_dist.mpr h)

/-! ### o.replace(x[-1], x[0]) -/
section
variable {X : Cx} {pins : List (Addr × Obj)} {σ : L2.St} {H : Hp} {s : Shared}
theorem none_booked (I : Inv X pins σ H s) (hnb : PySem.W.nsIn X.K cStatics sharingNotToldKey = some none) : NoneBooked s.heap := by
  obtain ⟨mc, hn, _⟩ := I.nolimit
  exact ⟨mc, hn, PySem.W.ns_none_of I.kIn hn hnb⟩
theorem raw_sub {i : Nat} {x : Str} {l : List Nat} {k : Int} {c : Nat} {ie : Expr} {p1 pos : Pos} {Q : Value → Shared → Prop} (hN : X.N[i]? = some x) (hv : Vis X.env.scope x) (I : Inv X pins σ H s)
    (hσ : σ[i]? = some (some (.str (S l)))) (hz : l.length ≤ 100000) (hc : atI l k = some c)
    (hi : ∀ Q' : Value → Shared → Prop, (∀ t n, s.toks < n → Q' (.int k t) { s with toks := n }) → wpAny (model X.prog X.w) X.A (eval ie X.env) Q' X.xe s)
    (fin : ∀ n, s.toks < n → Q (.str (S [c]) n) { s with toks := n + 1 }) (hs : PlainIx ie)
    (hd : (x == ("__debug__" : Str)) = false := by decide) (hcd : (x == ("__classdict__" : Str)) = false := by decide) :
    wpAny (model X.prog X.w) X.A (eval (.Subscript (.Name x p1) ie pos) X.env) Q X.xe s := by
  refine Subscript_ (raw_name hN hv I hσ (fun v r => ?_) hd hcd)
  obtain ⟨t, rfl⟩ := r
  refine hi _ fun t' n hn => ?_
  obtain ⟨j, h1, h2, h3, h4, h5⟩ := atI_get hc
  have hn63 := line63
  refine tail_any (typeIs_str _ (S l) t) slot_str_getitem.lookup (getItem_str (c := c) (by
    have e1 : decide (k < -(2 ^ 63 : Int)) = false := decide_eq_false (by omega)
    have e2 : decide (k ≥ 2 ^ 63) = false := decide_eq_false (by omega)
    rw [e1, e2, Bool.or_false]) (by
      have h1' : seqIndex? k (S l).length = some j := by rw [len_S]; exact h1
      rw [h1']
      simpa using h2) (fin n hn)) (hs _ _)
end
def tReplE (il : Nat) (to : TE) : TE := fun σ H Q => to σ H fun x H1 => ∃ (a l : List Nat) (d e : Nat), x = .str (S a) ∧ σ[il]? = some (some (.str (S l))) ∧ atI l (-1) = some d ∧ atI l 0 = some e ∧ a.length ≤ 1000 ∧ l.length ≤ 1000 ∧
  Q (.str (Txt.replace (S a) (S [d]) (S [e]))) H1
theorem pe_replEnds {X : Cx} {il : Nat} {lx : Str} {o : Expr} {to : TE} {j0 j1 : Nat} {p2 p3 c0 c1 c2 q0 q1 apos pos : Pos}
    (hnb : PySem.W.nsIn X.K cStatics sharingNotToldKey = some none) (ho : PE X o to) (hN : X.N[il]? = some lx) (hv : Vis X.env.scope lx)
    (hd : (lx == ("__debug__" : Str)) = false := by decide) (hcd : (lx == ("__classdict__" : Str)) = false := by decide)
    (hst : starEach [.Subscript (.Name lx p2) (.UnaryOp .USub (.Constant (.int 1) j0 c0) c1) q0, .Subscript (.Name lx p3) (.Constant (.int 0) j1 c2) q1] X.env =
      [(false, eval (.Subscript (.Name lx p2) (.UnaryOp .USub (.Constant (.int 1) j0 c0) c1) q0) X.env), (false, eval (.Subscript (.Name lx p3) (.Constant (.int 0) j1 c2) q1) X.env)] := by rfl)
    (hbase : attributeBase o "replace" X.env (eval o X.env) = eval o X.env := by rfl) (hline : (apos.endLine == pos.line) = true := by rfl) :
    PE X (.Call (.Attribute o "replace" apos) [.Subscript (.Name lx p2) (.UnaryOp .USub (.Constant (.int 1) j0 c0) c1) q0, .Subscript (.Name lx p3) (.Constant (.int 0) j1 c2) q1] [] pos) (tReplE il to) := by
  refine ⟨fun pins s σ H Q I h => ?_⟩
  refine PySem.Call_method2 hbase hst hline (thn (ho.run pins s σ H _ I h) fun v s1 ⟨x, H1, I1, r1, a, l, d, e, ex, hσ, h1, h0, ha, hl, q⟩ => ?_)
  subst ex
  obtain ⟨tx, rfl⟩ := r1
  refine ⟨"str", _, PySem.F.plainAttrs_str, PySem.F.slot_str_replace, PySem.F.type_str_replace, typeIs_str _ _ _, (fun _ e => nomatch e), Calls.callWith_builtin rfl (Calls.evalArgs_plain (Calls.spliced_cons ?_))⟩
  refine raw_sub hN hv I1 hσ (by omega) h1 (fun Q' hQ => UnaryOp_ (wpAny_Constant_int (neg_int (hQ _ _ (by show s1.toks < s1.toks + 1 + 1; omega))))) (fun n1 hn1 => ?_) (fun _ _ => rfl) hd hcd
  refine Calls.spliced_cons (raw_sub hN hv (I1.tok (n1 + 1)) hσ (by omega) h0 (fun Q' hQ => wpAny_Constant_int (hQ _ _ (by show n1 + 1 < n1 + 1 + 1; omega))) (fun n2 hn2 => ?_) (fun _ _ => rfl) hd hcd)
  refine Calls.spliced_nil ?_
  have hn2' : n1 + 1 < n2 := hn2
  refine PySem.SC.replaceA (Nat.ne_of_gt (Nat.lt_of_le_of_lt (Nat.zero_le _) hn1)) (Nat.ne_of_gt (Nat.lt_of_le_of_lt (Nat.zero_le _) hn2')) (Nat.ne_of_lt (Nat.lt_trans (Nat.lt_succ_self _) hn2')) ?_
    (fun t' k => ⟨.str _, H1, I1.tok k, ⟨t', rfl⟩, q⟩) (none_booked (I1.tok (n2 + 1)) hnb)
  rw [len_S]
  show a.length + (a.length + 1) * 1 ≤ _
  omega
/-- one sign for another -/
theorem repl1 (y z : Nat) (l : List Nat) : StrLaws.replL [y] [z] l = l.map fun c => if c = y then z else c := by
  induction l with
  | nil => rfl
  | cons c r ih =>
    rw [List.map_cons, ← ih]
    unfold StrLaws.replL
    rw [StrLaws.replS]
    show (if [c] = [y] then [z] ++ StrLaws.replS [y] [z] 0 r else c :: StrLaws.replS [y] [z] 0 r) = _
    by_cases h : c = y
    · rw [if_pos (by rw [h]), if_pos h]
      rfl
    · rw [if_neg (fun e => h (List.cons.inj e).1), if_neg h]
theorem replace1 (y z : Nat) (l : List Nat) : Txt.replace (S l) (S [y]) (S [z]) = S (l.map fun c => if c = y then z else c) := by
  have e := StrLaws.replace_list (x := S l) (y := S [y]) (z := S [z]) (by show 1 ≤ 1; decide)
  rw [← repl1]
  have e2 : (Txt.replace (S l) (S [y]) (S [z])).cps.toList = StrLaws.replL [y] [z] l := e
  rw [← e2]

/-! ### renamed patterns -/
theorem dist_map {l : List Nat} {g : Nat → Nat} (h : ∀ a ∈ l, ∀ b ∈ l, g a = g b → a = b) : dist (l.map g) = (dist l).map g := by
  revert h
  refine snocInd (P := fun l => (∀ a ∈ l, ∀ b ∈ l, g a = g b → a = b) → dist (l.map g) = (dist l).map g) (fun _ => rfl) (fun l c ih h => ?_) l
  have ih' := ih fun a ha b hb => h a (List.mem_append_left _ ha) b (List.mem_append_left _ hb)
  rw [List.map_append, List.map_cons, List.map_nil, dist_snoc, dist_snoc, ih']
  have hi : g c ∈ (dist l).map g ↔ c ∈ dist l := by
    rw [List.mem_map]
    constructor
    · rintro ⟨a, ha, e⟩
      have := h a (List.mem_append_left _ (mem_dist.mp ha)) c (List.mem_append_right _ (List.mem_singleton.mpr rfl)) e
      rw [← this]; exact ha
    · exact fun hc => ⟨c, hc, rfl⟩
  by_cases hc : c ∈ dist l
  · rw [if_pos (hi.mpr hc), if_pos hc]
  · rw [if_neg (fun z => hc (hi.mp z)), if_neg hc, List.map_append]
    rfl
theorem idx_map {m : List Nat} {g : Nat → Nat} {c : Nat} (h : ∀ a ∈ m, g a = g c → a = c) : (m.map g).idxOf (g c) = m.idxOf c := by
  induction m with
  | nil => rfl
  | cons x r ih =>
    rw [List.map_cons, List.idxOf_cons, List.idxOf_cons]
    by_cases e : x = c
    · rw [e, beq_self_eq_true, beq_self_eq_true]
      rfl
    · have e2 : ¬ g x = g c := fun z => e (h x List.mem_cons_self z)
      rw [beq_eq_false_iff_ne.mpr e, beq_eq_false_iff_ne.mpr e2]
      show _ + 1 = _ + 1
      rw [ih fun a ha => h a (List.mem_cons_of_mem _ ha)]
theorem nf_map {l : List Nat} {g : Nat → Nat} (h : ∀ a ∈ l, ∀ b ∈ l, g a = g b → a = b) : nf (l.map g) = nf l := by
  unfold nf
  rw [List.map_map, dist_map h]
  refine List.map_congr_left fun c hc => ?_
  show capL[((dist l).map g).idxOf (g c)]?.getD 0 = _
  rw [idx_map fun a ha => h a (mem_dist.mp ha) c hc]
theorem cap_inj {i j : Nat} (hi : i < 26) (hj : j < 26) (h : capL[i]?.getD 0 = capL[j]?.getD 0) : i = j := by
  have h1 : capL[i]? = some (capL[i]?.getD 0) := by rw [List.getElem?_eq_getElem (show i < capL.length from hi)]; rfl
  have h2 : capL[j]? = some (capL[j]?.getD 0) := by rw [List.getElem?_eq_getElem (show j < capL.length from hj)]; rfl
  rw [h] at h1
  exact nd_ix cap_nodup h1 h2
theorem idx_inj {m : List Nat} {a b : Nat} (ha : a ∈ m) (hb : b ∈ m) (h : m.idxOf a = m.idxOf b) : a = b := by
  have h1 := List.getElem_idxOf (List.idxOf_lt_length_iff.mpr ha)
  have h2 := List.getElem_idxOf (List.idxOf_lt_length_iff.mpr hb)
  rw [← h1, ← h2]
  congr 1
theorem Pat.idx {l : List Nat} (hp : Pat l) {c : Nat} (h : c ∈ l) : (dist l).idxOf c < 26 := by
  have := idx_dist_lt h
  have := hp.few
  omega
theorem nf_inj {l : List Nat} (hp : Pat l) : ∀ a ∈ l, ∀ b ∈ l, capL[(dist l).idxOf a]?.getD 0 = capL[(dist l).idxOf b]?.getD 0 → a = b := fun a ha b hb e =>
  idx_inj (mem_dist.mpr ha) (mem_dist.mpr hb) (cap_inj (hp.idx ha) (hp.idx hb) e)
/-- renaming by an injection to capitals keeps patterns and normal forms -/
theorem Pat.map {l : List Nat} (hp : Pat l) {g : Nat → Nat} (h : ∀ a ∈ l, ∀ b ∈ l, g a = g b → a = b) (hc : ∀ a ∈ l, g a ∈ capL) : Pat (l.map g) :=
  ⟨by rw [List.length_map]; exact hp.lo, by rw [List.length_map]; exact hp.hi, fun c hcm => by obtain ⟨a, ha, rfl⟩ := List.mem_map.mp hcm; exact hc a ha, by rw [dist_map h, List.length_map]; exact hp.few⟩
theorem cap_getD_mem {k : Nat} (h : k < 26) : capL[k]?.getD 0 ∈ capL := List.mem_of_getElem? (by rw [List.getElem?_eq_getElem (show k < capL.length from h)]; rfl)
theorem Pat.nf {l : List Nat} (hp : Pat l) : Pat (nf l) := hp.map (nf_inj hp) fun a ha => cap_getD_mem (hp.idx ha)
theorem nf_nf {l : List Nat} (hp : Pat l) : nf (nf l) = nf l := nf_map (nf_inj hp)
theorem idx_getElem {m : List Nat} (hm : m.Nodup) {i : Nat} (h : i < m.length) : m.idxOf m[i] = i :=
  nd_ix hm (List.getElem?_eq_some_iff.mpr ⟨List.idxOf_lt_length_iff.mpr (List.getElem_mem h), List.getElem_idxOf _⟩) (List.getElem?_eq_getElem h)
theorem dist_dist_map {m : List Nat} (hm : m.Nodup) (f : Nat → Nat) : m.map (fun c => f (m.idxOf c)) = (List.range m.length).map f := by
  refine List.ext_getElem? fun i => ?_
  rw [List.getElem?_map, List.getElem?_map]
  by_cases h : i < m.length
  · rw [List.getElem?_eq_getElem h, List.getElem?_eq_getElem (by rw [List.length_range]; exact h), List.getElem_range]
    show some (f (m.idxOf m[i])) = some (f i)
    rw [idx_getElem hm]
  · rw [List.getElem?_eq_none (by omega), List.getElem?_eq_none (by rw [List.length_range]; omega)]
    rfl
theorem dist_nf {l : List Nat} (hp : Pat l) : dist (nf l) = capL.take (dist l).length := by
  unfold nf
  rw [dist_map (nf_inj hp), dist_dist_map (dist_nodup l) (fun i => capL[i]?.getD 0)]
  have := hp.few
  refine List.ext_getElem? fun i => ?_
  rw [List.getElem?_map, List.getElem?_take]
  by_cases h : i < (dist l).length
  · rw [if_pos h, List.getElem?_eq_getElem (by rw [List.length_range]; exact h), List.getElem_range, List.getElem?_eq_getElem (show i < capL.length by show i < 26; omega)]
    show some (capL[i]?.getD 0) = _
    rw [List.getElem?_eq_getElem (show i < capL.length by show i < 26; omega)]
    rfl
  · rw [if_neg h, List.getElem?_eq_none (by rw [List.length_range]; omega)]
    rfl
/-- two letters made one: another normal form -/
theorem nf_merge {l : List Nat} (hp : Pat l) {d e : Nat} (hd : d ∈ l) (he : e ∈ l) : (nf (l.map fun c => if c = d then e else c) = nf l) ↔ d = e := by
  constructor
  · intro h
    refine Classical.byContradiction fun hne => ?_
    have hmem : ∀ c ∈ l.map (fun c => if c = d then e else c), c ∈ (dist l).erase d := fun c hc => by
      obtain ⟨a, ha, rfl⟩ := List.mem_map.mp hc
      by_cases q : a = d
      · rw [if_pos q]
        exact (List.mem_erase_of_ne (fun z => hne z.symm)).mpr (mem_dist.mpr he)
      · rw [if_neg q]
        exact (List.mem_erase_of_ne q).mpr (mem_dist.mpr ha)
    have hlen := dist_few hmem
    rw [List.length_erase_of_mem (mem_dist.mpr hd)] at hlen
    have hpos : 0 < (dist l).length := List.length_pos_of_mem (mem_dist.mpr hd)
    have hp' : Pat (l.map fun c => if c = d then e else c) := ⟨by rw [List.length_map]; exact hp.lo, by rw [List.length_map]; exact hp.hi, fun c hc => by
      obtain ⟨a, ha, rfl⟩ := List.mem_map.mp hc
      by_cases q : a = d
      · rw [if_pos q]; exact hp.cap e he
      · rw [if_neg q]; exact hp.cap a ha, by have := hp.few; omega⟩
    have h2 := congrArg (fun x => (dist x).length) h
    simp only [dist_nf hp, dist_nf hp', List.length_take] at h2
    have := hp.few
    have hcl : capL.length = 26 := rfl
    omega
  · intro h
    subst h
    congr 1
    have : (fun c => if c = d then d else c) = (id : Nat → Nat) := funext fun c => by
      by_cases q : c = d
      · rw [if_pos q, q]; rfl
      · rw [if_neg q]; rfl
    rw [this, List.map_id]

/-! ### the text by places -/
def topS (i : Nat) : Stmt := PySem.Challenge.pw_surepatterns_k02_letters_and_normal_form.main.body.getD i (.Pass ⟨0, 0, 0, 0⟩)
abbrev s_distinct : Stmt := topS 3
theorem sc_distinct : FnScope ["text", "found", "character"] ["text"] (defScope s_distinct) := ⟨rfl, rfl, rfl, by decide +kernel, rfl, by decide +kernel, by decide +kernel⟩
abbrev s_has_only : Stmt := topS 2
theorem sc_has_only : FnScope ["text", "letters", "character"] ["text", "letters"] (defScope s_has_only) := ⟨rfl, rfl, rfl, by decide +kernel, rfl, by decide +kernel, by decide +kernel⟩
abbrev s_is_pattern : Stmt := topS 10
theorem sc_is_pattern : FnScope ["value"] ["value"] (defScope s_is_pattern) := ⟨rfl, rfl, rfl, by decide +kernel, rfl, by decide +kernel, by decide +kernel⟩
abbrev s_need_pattern : Stmt := topS 11
theorem sc_need_pattern : FnScope ["value"] ["value"] (defScope s_need_pattern) := ⟨rfl, rfl, rfl, by decide +kernel, rfl, by decide +kernel, by decide +kernel⟩
abbrev s_letters_of : Stmt := topS 12
theorem sc_letters_of : FnScope ["pattern"] ["pattern"] (defScope s_letters_of) := ⟨rfl, rfl, rfl, by decide +kernel, rfl, by decide +kernel, by decide +kernel⟩
abbrev s_in_normal_form : Stmt := topS 14
theorem sc_in_normal_form : FnScope ["pattern", "letters", "letter"] ["pattern"] (defScope s_in_normal_form) := ⟨rfl, rfl, rfl, by decide +kernel, rfl, by decide +kernel, by decide +kernel⟩
abbrev s_normal_form : Stmt := topS 13
theorem sc_normal_form : FnScope ["pattern"] ["pattern"] (defScope s_normal_form) := ⟨rfl, rfl, rfl, by decide +kernel, rfl, by decide +kernel, by decide +kernel⟩
abbrev s_law_open : Stmt := topS 17
theorem sc_law_open : FnScope ["script", "cells", "k", "cell"] ["script"] (defScope s_law_open) := ⟨rfl, rfl, rfl, by decide +kernel, rfl, by decide +kernel, by decide +kernel⟩
abbrev s_law_anew : Stmt := topS 18
theorem sc_law_anew : FnScope ["pen"] ["pen"] (defScope s_law_anew) := ⟨rfl, rfl, rfl, by decide +kernel, rfl, by decide +kernel, by decide +kernel⟩
abbrev s_law_spread : Stmt := topS 16
theorem sc_law_spread : FnScope ["cell", "at", "primes", "mixed", "one", "two", "three"] ["cell", "at"] (defScope s_law_spread) := ⟨rfl, rfl, rfl, by decide +kernel, rfl, by decide +kernel, by decide +kernel⟩
abbrev s_law_take : Stmt := topS 19
theorem sc_law_take : FnScope ["pen", "many", "at", "cell", "found"] ["pen", "many"] (defScope s_law_take) := ⟨rfl, rfl, rfl, by decide +kernel, rfl, by decide +kernel, by decide +kernel⟩
abbrev s_law_one : Stmt := topS 20
theorem sc_law_one : FnScope ["pen", "some"] ["pen", "some"] (defScope s_law_one) := ⟨rfl, rfl, rfl, by decide +kernel, rfl, by decide +kernel, by decide +kernel⟩
abbrev s_law_drawn : Stmt := topS 21
theorem sc_law_drawn : FnScope ["pen", "many", "found", "k"] ["pen", "many"] (defScope s_law_drawn) := ⟨rfl, rfl, rfl, by decide +kernel, rfl, by decide +kernel, by decide +kernel⟩
abbrev s_law_pattern : Stmt := topS 23
theorem sc_law_pattern : FnScope ["pen", "most", "many", "order", "letters", "place", "step"] ["pen", "most", "many"] (defScope s_law_pattern) := ⟨rfl, rfl, rfl, by decide +kernel, rfl, by decide +kernel, by decide +kernel⟩
abbrev s_law_letters : Stmt := topS 24
theorem sc_law_letters : FnScope ["pattern", "found", "letter"] ["pattern"] (defScope s_law_letters) := ⟨rfl, rfl, rfl, by decide +kernel, rfl, by decide +kernel, by decide +kernel⟩
abbrev s_law_renamed : Stmt := topS 26
theorem sc_law_renamed : FnScope ["pen", "pattern", "order", "letters", "letter"] ["pen", "pattern"] (defScope s_law_renamed) := ⟨rfl, rfl, rfl, by decide +kernel, rfl, by decide +kernel, by decide +kernel⟩
abbrev s_law : Stmt := topS 27
theorem sc_law : FnScope ["script", "pen", "turn", "pattern", "letters", "due", "other", "same", "letter"] ["script"] (defScope s_law) := ⟨rfl, rfl, rfl, by decide +kernel, rfl, by decide +kernel, by decide +kernel⟩
structure Ad where
  (f_distinct : Addr) (d_distinct : FuncData)
  (f_has_only : Addr) (d_has_only : FuncData)
  (f_is_pattern : Addr) (d_is_pattern : FuncData)
  (f_need_pattern : Addr) (d_need_pattern : FuncData)
  (f_letters_of : Addr) (d_letters_of : FuncData)
  (f_in_normal_form : Addr) (d_in_normal_form : FuncData)
  (f_normal_form : Addr) (d_normal_form : FuncData)
  (f_law_open : Addr) (d_law_open : FuncData)
  (f_law_anew : Addr) (d_law_anew : FuncData)
  (f_law_spread : Addr) (d_law_spread : FuncData)
  (f_law_take : Addr) (d_law_take : FuncData)
  (f_law_one : Addr) (d_law_one : FuncData)
  (f_law_drawn : Addr) (d_law_drawn : FuncData)
  (f_law_pattern : Addr) (d_law_pattern : FuncData)
  (f_law_letters : Addr) (d_law_letters : FuncData)
  (f_law_renamed : Addr) (d_law_renamed : FuncData)
  (f_law : Addr) (d_law : FuncData)
  (t_CAPITALS : Tok)
  (t_LONGEST_PATTERN : Tok)
  (t_MOST_LETTERS : Tok)
/-- what the top has written -/
structure Txt (K : PySem.W.Frag) (mg : Str → Option Value) (A : Ad) : Prop where
  F_distinct : Fun K "distinct" "distinct" s_distinct A.f_distinct A.d_distinct
  g_distinct : mg "distinct" = some (.ref A.f_distinct)
  b_distinct : Binds K A.d_distinct ["text"] []
  F_has_only : Fun K "has_only" "has_only" s_has_only A.f_has_only A.d_has_only
  g_has_only : mg "has_only" = some (.ref A.f_has_only)
  b_has_only : Binds K A.d_has_only ["text", "letters"] []
  F_is_pattern : Fun K "is_pattern" "is_pattern" s_is_pattern A.f_is_pattern A.d_is_pattern
  g_is_pattern : mg "is_pattern" = some (.ref A.f_is_pattern)
  b_is_pattern : Binds K A.d_is_pattern ["value"] []
  F_need_pattern : Fun K "need_pattern" "need_pattern" s_need_pattern A.f_need_pattern A.d_need_pattern
  g_need_pattern : mg "need_pattern" = some (.ref A.f_need_pattern)
  b_need_pattern : Binds K A.d_need_pattern ["value"] []
  F_letters_of : Fun K "letters_of" "letters_of" s_letters_of A.f_letters_of A.d_letters_of
  g_letters_of : mg "letters_of" = some (.ref A.f_letters_of)
  b_letters_of : Binds K A.d_letters_of ["pattern"] []
  F_in_normal_form : Fun K "in_normal_form" "in_normal_form" s_in_normal_form A.f_in_normal_form A.d_in_normal_form
  g_in_normal_form : mg "in_normal_form" = some (.ref A.f_in_normal_form)
  b_in_normal_form : Binds K A.d_in_normal_form ["pattern"] []
  F_normal_form : Fun K "normal_form" "normal_form" s_normal_form A.f_normal_form A.d_normal_form
  g_normal_form : mg "normal_form" = some (.ref A.f_normal_form)
  b_normal_form : Binds K A.d_normal_form ["pattern"] []
  F_law_open : Fun K "_law_open" "_law_open" s_law_open A.f_law_open A.d_law_open
  g_law_open : mg "_law_open" = some (.ref A.f_law_open)
  b_law_open : Binds K A.d_law_open ["script"] []
  F_law_anew : Fun K "_law_anew" "_law_anew" s_law_anew A.f_law_anew A.d_law_anew
  g_law_anew : mg "_law_anew" = some (.ref A.f_law_anew)
  b_law_anew : Binds K A.d_law_anew ["pen"] []
  F_law_spread : Fun K "_law_spread" "_law_spread" s_law_spread A.f_law_spread A.d_law_spread
  g_law_spread : mg "_law_spread" = some (.ref A.f_law_spread)
  b_law_spread : Binds K A.d_law_spread ["cell", "at"] []
  F_law_take : Fun K "_law_take" "_law_take" s_law_take A.f_law_take A.d_law_take
  g_law_take : mg "_law_take" = some (.ref A.f_law_take)
  b_law_take : Binds K A.d_law_take ["pen", "many"] []
  F_law_one : Fun K "_law_one" "_law_one" s_law_one A.f_law_one A.d_law_one
  g_law_one : mg "_law_one" = some (.ref A.f_law_one)
  b_law_one : Binds K A.d_law_one ["pen", "some"] []
  F_law_drawn : Fun K "_law_drawn" "_law_drawn" s_law_drawn A.f_law_drawn A.d_law_drawn
  g_law_drawn : mg "_law_drawn" = some (.ref A.f_law_drawn)
  b_law_drawn : Binds K A.d_law_drawn ["pen", "many"] []
  F_law_pattern : Fun K "_law_pattern" "_law_pattern" s_law_pattern A.f_law_pattern A.d_law_pattern
  g_law_pattern : mg "_law_pattern" = some (.ref A.f_law_pattern)
  b_law_pattern : Binds K A.d_law_pattern ["pen", "most", "many"] []
  F_law_letters : Fun K "_law_letters" "_law_letters" s_law_letters A.f_law_letters A.d_law_letters
  g_law_letters : mg "_law_letters" = some (.ref A.f_law_letters)
  b_law_letters : Binds K A.d_law_letters ["pattern"] []
  F_law_renamed : Fun K "_law_renamed" "_law_renamed" s_law_renamed A.f_law_renamed A.d_law_renamed
  g_law_renamed : mg "_law_renamed" = some (.ref A.f_law_renamed)
  b_law_renamed : Binds K A.d_law_renamed ["pen", "pattern"] []
  F_law : Fun K "law" "law" s_law A.f_law A.d_law
  g_law : mg "law" = some (.ref A.f_law)
  b_law : Binds K A.d_law ["script"] []
  g_CAPITALS : mg "CAPITALS" = some (.str "ABCDEFGHIJKLMNOPQRSTUVWXYZ" A.t_CAPITALS)
  g_LONGEST_PATTERN : mg "LONGEST_PATTERN" = some (.int 20 A.t_LONGEST_PATTERN)
  g_MOST_LETTERS : mg "MOST_LETTERS" = some (.int 7 A.t_MOST_LETTERS)
  enumerate : mg "enumerate" = none
  int : mg "int" = none
  isinstance : mg "isinstance" = none
  len : mg "len" = none
  list : mg "list" = none
  range : mg "range" = none
  str : mg "str" = none
  nb : PySem.W.nsIn K cStatics sharingNotToldKey = some none
def spTop (K : PySem.W.Frag) : Sp := fun vs H Q _ => ∃ (a : Addr) (ns : List Int), vs = [.ref a] ∧ SqL K H a (ns.map V.int) ∧ ns.length ≤ 63 ∧ ∀ H', Q (.bl true) H'

section
variable {P : Program} {w : World} {K : PySem.W.Frag} {mg : Str → Option Value} {base : Heap} {A : Ad}

/-! ### distinct -/
def sp_distinct : Sp := fun vs H Q _ => ∃ l : List Nat, vs = [.str (S l)] ∧ l.length ≤ 200000 ∧ Q (.str (S (dist l))) H
theorem ok_distinct (T : Txt K mg A) : FnOk P w K mg base CX0 1 A.f_distinct A.d_distinct ["text"] sp_distinct := by
  refine T.F_distinct.ok sc_distinct (fun vs H Q E h => ?_) (fun cdv A' outer s H vs Q E hr h => ?_)
  · obtain ⟨l, rfl, _⟩ := h
    rfl
  · obtain ⟨l, rfl, hl, k⟩ := h
    refine ⟨_, (pss_cons (ps_set (i := 1) sc_distinct.nd rfl (by first | exact Or.inl rfl | exact Or.inr rfl) pe_str)
  (pss_cons (ps_for PassesOwn.never rfl (pi_str (pv 0)) (pg_name (i := 2) sc_distinct.nd rfl (by first | exact Or.inl rfl | exact Or.inr rfl)) (pss_one (ps_if (pt_cmpR op_notIn_sign (pv 2) (pv 1) rfl) (pss_one (ps_aug (i := 1) sc_distinct.nd rfl (by first | exact Or.inl rfl | exact Or.inr rfl) (pv 2) ip_addS)) pss_nil)))
  (pss_one (ps_ret (pv 1))))), ?_⟩
    refine ⟨_, rfl, S l, rfl, for_it walk_S (fun i σ H' => ∃ y, σ = [some (.str (S l)), some (.str (S (dist (l.take i)))), y] ∧ H' = H) ⟨none, rfl, rfl⟩ (fun _ _ _ _ _ => trivial) ?_ ?_⟩
    · rintro i x σ H2 H3 hi ⟨y, rfl, rfl⟩ ⟨rfl, c, hc, rfl⟩
      refine ⟨_, rfl, _, rfl, c, S (dist (l.take i)), rfl, rfl, _, rfl, ?_⟩
      have e : dist (l.take (i + 1)) = if c ∈ dist (l.take i) then dist (l.take i) else dist (l.take i) ++ [c] := by
        rw [List.take_add_one, hc, Option.toList_some, dist_snoc]
      by_cases hcm : c ∈ dist (l.take i)
      · rw [show decide (c ∈ (S (dist (l.take i))).cps.toList) = true from decide_eq_true hcm]
        rw [if_pos hcm] at e
        refine iteF ⟨some (.str (S [c])), ?_, rfl⟩
        rw [e]
        rfl
      · rw [show decide (c ∈ (S (dist (l.take i))).cps.toList) = false from decide_eq_false hcm]
        rw [if_neg hcm] at e
        refine iteT ⟨_, rfl, _, rfl, _, _, rfl, rfl, ?_, some (.str (S [c])), ?_, rfl⟩
        · rw [len_S, len_S, sizeLine_eq]
          have := dist_len (l.take i)
          rw [List.length_take] at this
          show _ + 1 ≤ _
          omega
        · rw [e, SX.S_cat]
          rfl
    · rintro σ H2 ⟨y, rfl, rfl⟩
      rw [List.take_length]
      exact ⟨_, rfl, k⟩

/-! ### has_only -/
def sp_has_only : Sp := fun vs H Q _ => ∃ l m : List Nat, vs = [.str (S l), .str (S m)] ∧ Q (.bl (allIn l m)) H
theorem ok_has_only (T : Txt K mg A) : FnOk P w K mg base CX0 1 A.f_has_only A.d_has_only ["text", "letters"] sp_has_only := by
  refine T.F_has_only.ok sc_has_only (fun vs H Q E h => ?_) (fun cdv A' outer s H vs Q E hr h => ?_)
  · obtain ⟨l, m, rfl, _⟩ := h
    rfl
  · obtain ⟨l, m, rfl, k⟩ := h
    refine ⟨_, (pss_cons (ps_for PassesOwn.never rfl (pi_str (pv 0)) (pg_name (i := 2) sc_has_only.nd rfl (by first | exact Or.inl rfl | exact Or.inr rfl)) (pss_one (ps_if (pt_cmpR op_notIn_sign (pv 2) (pv 1) rfl) (pss_one (ps_ret pe_bl)) pss_nil)))
  (pss_one (ps_ret pe_bl))), ?_⟩
    refine ⟨_, rfl, S l, rfl, for_it walk_S (fun i σ H' => ∃ y, σ = [some (.str (S l)), some (.str (S m)), y] ∧ H' = H ∧ ∀ c ∈ l.take i, c ∈ m) ⟨none, rfl, rfl, fun _ h => nomatch h⟩ (fun _ _ _ _ _ => trivial) ?_ ?_⟩
    · rintro i x σ H2 H3 hi ⟨y, rfl, rfl, hm⟩ ⟨rfl, c, hc, rfl⟩
      refine ⟨_, rfl, _, rfl, c, S m, rfl, rfl, _, rfl, ?_⟩
      by_cases hcm : c ∈ m
      · rw [show decide (c ∈ (S m).cps.toList) = true from decide_eq_true hcm]
        refine iteF ⟨_, rfl, rfl, fun d hd => ?_⟩
        rw [List.take_add_one, hc] at hd
        rcases List.mem_append.mp hd with h | h
        · exact hm d h
        · rw [Option.toList_some, List.mem_singleton] at h
          subst h; exact hcm
      · rw [show decide (c ∈ (S m).cps.toList) = false from decide_eq_false hcm]
        refine iteT ?_
        have e : allIn l m = false := by
          cases h : allIn l m with
          | false => rfl
          | true => exact absurd (allIn_iff.mp h c (List.mem_of_getElem? hc)) hcm
        rw [e] at k
        exact k
    · rintro σ H2 ⟨y, rfl, rfl, hm⟩
      rw [List.take_length] at hm
      have e : allIn l m = true := allIn_iff.mpr hm
      rw [e] at k
      exact k

/-! ### is_pattern, of a text -/
def sp_is_pattern : Sp := fun vs H Q _ => ∃ l : List Nat, vs = [.str (S l)] ∧ l.length ≤ 200000 ∧ Q (.bl (patB l)) H
theorem ok_is_pattern (T : Txt K mg A) : FnOk P w K mg base CX0 2 A.f_is_pattern A.d_is_pattern ["value"] sp_is_pattern := by
  refine T.F_is_pattern.ok sc_is_pattern (fun vs H Q E h => ?_) (fun cdv A' outer s H vs Q E hr h => ?_)
  · obtain ⟨l, rfl, _⟩ := h
    rfl
  · obtain ⟨l, rfl, hl, k⟩ := h
    refine ⟨_, (pss_cons (ps_if (PW.pt (pw_or (pt_not (pt_val (pe_callB call_isi (by rfl) T.isinstance PyProof.Rows.boot_isinstance (pa_cons (pv 0) (pa_cons (pe_bltn (v := .ty "str") (by rfl) T.str (by decide +kernel) rfl) pa_nil))))) (pw_or1 (pt_not (pt_chain op_le op_le pe_int (pe_callB call_len_str (by rfl) T.len PySem.boot_len (pa_cons (pv 0) pa_nil)) (pe_glob (v := .int 20) (by rfl) T.g_LONGEST_PATTERN ⟨_, rfl⟩)))))) (pss_one (ps_ret pe_bl)) pss_nil)
  (pss_one (ps_ret (pe_and (pe_call (ok_has_only T) hr (by rfl) T.g_has_only T.F_has_only.kp T.b_has_only .nil pass0 (pa_cons (pv 0) (pa_cons (pe_glob (v := .str "ABCDEFGHIJKLMNOPQRSTUVWXYZ") (by rfl) T.g_CAPITALS ⟨_, rfl⟩) pa_nil))) (pe_one (pe_cmpR op_le (pe_callB call_len_str (by rfl) T.len PySem.boot_len (pa_cons (pe_call (ok_distinct T) hr (by rfl) T.g_distinct T.F_distinct.kp T.b_distinct .nil pass0 (pa_cons (pv 0) pa_nil)) pa_nil)) (pe_glob (v := .int 7) (by rfl) T.g_MOST_LETTERS ⟨_, rfl⟩) (nomark _))))))), ?_⟩
    have hsz : sizeLine = 16777216 := sizeLine_eq
    have hz : (S l).length ≤ sizeLine := by rw [len_S]; omega
    unfold patB at k
    refine ⟨_, rfl, _, _, _, _, true, rfl, .ty _, .base (.str _), kit_ty (by decide +kernel), _, rfl, iteF ?_⟩
    refine ⟨_, rfl, S l, rfl, hz, _, _, rfl, rfl, _, rfl, ?_⟩
    rw [len_S]
    by_cases h1 : 1 ≤ l.length
    · rw [show decide ((1 : Int) ≤ (l.length : Int)) = true from decide_eq_true (by omega)]
      rw [decide_eq_true h1] at k
      refine iteT ⟨_, _, rfl, rfl, _, rfl, ?_⟩
      by_cases h2 : l.length ≤ 20
      · rw [show decide ((l.length : Int) ≤ 20) = true from decide_eq_true (by omega)]
        rw [decide_eq_true h2] at k
        refine iteF ?_
        refine ⟨_, rfl, l, capL, by rw [capS]; rfl, _, rfl, ?_⟩
        cases e : allIn l capL with
        | false =>
          rw [e] at k
          exact iteF k
        | true =>
          rw [e] at k
          refine iteT ⟨_, rfl, l, rfl, hl, S (dist l), rfl, ?_, _, _, rfl, rfl, ?_⟩
          · rw [len_S]
            have := dist_len l
            omega
          · show Q (.bl (decide (((S (dist l)).length : Int) ≤ 7))) H
            rw [len_S, show decide (((dist l).length : Int) ≤ 7) = decide ((dist l).length ≤ 7) from decide_eq_decide.mpr (by omega)]
            exact k
      · rw [show decide ((l.length : Int) ≤ 20) = false from decide_eq_false (by omega)]
        rw [decide_eq_false h2] at k
        exact iteT k
    · rw [show decide ((1 : Int) ≤ (l.length : Int)) = false from decide_eq_false (by omega)]
      rw [decide_eq_false h1] at k
      exact iteF ⟨_, rfl, iteT k⟩

/-! ### need_pattern, of a pattern -/
def sp_need_pattern : Sp := fun vs H Q _ => ∃ l : List Nat, vs = [.str (S l)] ∧ Pat l ∧ Q .non H
theorem ok_need_pattern (T : Txt K mg A) : FnOk P w K mg base CX0 3 A.f_need_pattern A.d_need_pattern ["value"] sp_need_pattern := by
  refine T.F_need_pattern.ok sc_need_pattern (fun vs H Q E h => ?_) (fun cdv A' outer s H vs Q E hr h => ?_)
  · obtain ⟨l, rfl, _⟩ := h
    rfl
  · obtain ⟨l, rfl, hp, k⟩ := h
    refine ⟨_, (pss_one (ps_if (pt_not (pt_val (pe_call (ok_is_pattern T) hr (by rfl) T.g_is_pattern T.F_is_pattern.kp T.b_is_pattern .nil pass0 (pa_cons (pv 0) pa_nil)))) (pss_one ps_never) pss_nil)), ?_⟩
    have := hp.hi
    refine ⟨_, rfl, l, rfl, by omega, _, rfl, ?_⟩
    rw [pat_iff.mpr hp]
    exact iteF k

/-! ### letters_of, of a pattern -/
def sp_letters_of : Sp := fun vs H Q _ => ∃ l : List Nat, vs = [.str (S l)] ∧ Pat l ∧ Q (.str (S (dist l))) H
theorem ok_letters_of (T : Txt K mg A) : FnOk P w K mg base CX0 4 A.f_letters_of A.d_letters_of ["pattern"] sp_letters_of := by
  refine T.F_letters_of.ok sc_letters_of (fun vs H Q E h => ?_) (fun cdv A' outer s H vs Q E hr h => ?_)
  · obtain ⟨l, rfl, _⟩ := h
    rfl
  · obtain ⟨l, rfl, hp, k⟩ := h
    refine ⟨_, (pss_cons (ps_expr (pe_call (ok_need_pattern T) hr (by rfl) T.g_need_pattern T.F_need_pattern.kp T.b_need_pattern .nil pass0 (pa_cons (pv 0) pa_nil)))
  (pss_one (ps_ret (pe_call (ok_distinct T) (hr.mono (by decide)) (by rfl) T.g_distinct T.F_distinct.kp T.b_distinct .nil pass0 (pa_cons (pv 0) pa_nil))))), ?_⟩
    have := hp.hi
    exact ⟨_, rfl, l, rfl, hp, _, rfl, l, rfl, by omega, k⟩

/-! ### in_normal_form -/
def sp_in_normal_form : Sp := fun vs H Q _ => ∃ l : List Nat, vs = [.str (S l)] ∧ l.length ≤ 20 ∧ (dist l).length ≤ 7 ∧ ∀ H', Same H H' → Q (.str (S (nf l))) H'
theorem ok_in_normal_form (T : Txt K mg A) : FnOk P w K mg base CX0 2 A.f_in_normal_form A.d_in_normal_form ["pattern"] sp_in_normal_form := by
  refine T.F_in_normal_form.ok sc_in_normal_form (fun vs H Q E h => ?_) (fun cdv A' outer s H vs Q E hr h => ?_)
  · obtain ⟨l, rfl, _⟩ := h
    rfl
  · obtain ⟨l, rfl, h20, h7, k⟩ := h
    refine ⟨_, (pss_cons (ps_set (i := 1) sc_in_normal_form.nd rfl (by first | exact Or.inl rfl | exact Or.inr rfl) (pe_call (ok_distinct T) hr (by rfl) T.g_distinct T.F_distinct.kp T.b_distinct .nil pass0 (pa_cons (pv 0) pa_nil)))
  (pss_one (ps_ret (pe_join pe_str (pe_lc (own := [("letter", 2)]) (g := gName 2) (tt := tYes) (by rfl) sc_in_normal_form.nd (pi_str (pv 0)) (blkOk_by (own := [("letter", 2)]) (N := ["pattern", "letters", "letter"]) (sc := defScope s_in_normal_form) (by decide +kernel)) (fun _ _ _ _ _ => (pg_name (i := 2) sc_in_normal_form.nd rfl (by first | exact Or.inl rfl | exact Or.inr rfl))) (fun _ _ _ _ _ => pts_nil) (fun _ _ _ _ _ => (pe_ix ix_str (pe_glob (v := .str "ABCDEFGHIJKLMNOPQRSTUVWXYZ") (by rfl) T.g_CAPITALS ⟨_, rfl⟩) (pe_idx (pv 1) (pv 2)) (fun _ _ => rfl)))))))), ?_⟩
    refine ⟨_, rfl, l, rfl, by omega, ⟨_, rfl⟩, _, rfl, S l, rfl, fun D hD => ?_⟩
    refine lc_map l (fun c => .str (S [capL[(dist l).idxOf c]?.getD 0])) walk_S hD (by omega) (fun _ _ => trivial) ?_ ?_
    · rintro i c x H2 H3 R hc s2 ⟨rfl, c', hc', rfl⟩ hR
      obtain rfl : c = c' := Option.some.inj (hc.symm.trans hc')
      have hm : c ∈ l := List.mem_of_getElem? hc
      have hlt := idx_dist_lt hm
      have hcap : (dist l).idxOf c < capL.length := by show _ < 26; omega
      refine ⟨rfl, _, rfl, ⟨_, rfl⟩, _, rfl, dist l, c, rfl, rfl, mem_dist.mpr hm, _, _, capL[(dist l).idxOf c], rfl, rfl, by decide +kernel, ?_, ?_⟩
      · rw [capS]
        exact atI_nat (List.getElem?_eq_getElem hcap)
      · have q := hR H3 (Same.refl H3)
        rw [List.getElem?_eq_getElem hcap] at q
        exact q
    · intro H2 s2 g2
      rw [map_sg] at g2
      refine ⟨S [], D, _, rfl, rfl, .inl (SqL.of g2), join_ok1 _ (by omega), ?_⟩
      rw [join0, flat1]
      exact k H2 s2

/-! ### normal_form, of a pattern -/
def sp_normal_form : Sp := fun vs H Q _ => ∃ l : List Nat, vs = [.str (S l)] ∧ Pat l ∧ ∀ H', Same H H' → Q (.str (S (nf l))) H'
theorem ok_normal_form (T : Txt K mg A) : FnOk P w K mg base CX0 4 A.f_normal_form A.d_normal_form ["pattern"] sp_normal_form := by
  refine T.F_normal_form.ok sc_normal_form (fun vs H Q E h => ?_) (fun cdv A' outer s H vs Q E hr h => ?_)
  · obtain ⟨l, rfl, _⟩ := h
    rfl
  · obtain ⟨l, rfl, hp, k⟩ := h
    refine ⟨_, (pss_cons (ps_expr (pe_call (ok_need_pattern T) hr (by rfl) T.g_need_pattern T.F_need_pattern.kp T.b_need_pattern .nil pass0 (pa_cons (pv 0) pa_nil)))
  (pss_one (ps_ret (pe_call (ok_in_normal_form T) (hr.mono (by decide)) (by rfl) T.g_in_normal_form T.F_in_normal_form.kp T.b_in_normal_form .nil pass0 (pa_cons (pv 0) pa_nil))))), ?_⟩
    exact ⟨_, rfl, l, rfl, hp, _, rfl, l, rfl, hp.hi, hp.few, k⟩

/-! ### _law_open -/
def sp_law_open (K : PySem.W.Frag) : Sp := fun vs H Q _ => ∃ (a : Addr) (ns : List Int), vs = [.ref a] ∧ SqL K H a (ns.map V.int) ∧ ns.length ≤ 63 ∧ ∀ p c H', Same H H' → H p = none → H c = none → Pen H' p c 0 → Q (.ref p) H'
theorem ok_law_open (T : Txt K mg A) : FnOk P w K mg base CX0 1 A.f_law_open A.d_law_open ["script"] (sp_law_open K) := by
  refine T.F_law_open.ok sc_law_open (fun vs H Q E h => ?_) (fun cdv A' outer s H vs Q E hr h => ?_)
  · obtain ⟨a, ns, rfl, _⟩ := h
    rfl
  · obtain ⟨a, ns, rfl, hS, hl, k⟩ := h
    refine ⟨_, (pss_cons (ps_set (i := 1) sc_law_open.nd rfl (by first | exact Or.inl rfl | exact Or.inr rfl) (pe_callTy (call_listK (K := K)) (by rfl) T.list (by decide +kernel) (pa_cons (pe_slice (sl_listK (K := K)) (pv 0) po_none (po_some pe_int)) pa_nil)))
  (pss_cons (ps_for PassesOwn.never rfl (pi_enum (by rfl) T.enumerate (pa_cons (pe_slice (sl_listK (K := K)) (pv 0) (po_some pe_int) (po_some pe_int)) pa_nil)) (pg_tup (by rfl) (pgs_cons (pg_name (i := 2) sc_law_open.nd rfl (by first | exact Or.inl rfl | exact Or.inr rfl)) (pgs_cons (pg_name (i := 3) sc_law_open.nd rfl (by first | exact Or.inl rfl | exact Or.inr rfl)) pgs_nil))) (pss_one (ps_asg (pe_op op_add (pe_ix (ix_listK (K := K)) (pv 1) (pe_op op_mod (pv 2) pe_int) (fun _ _ => rfl)) (pv 3)) (pg_sub (pv 1) (pe_op op_mod (pv 2) pe_int) set_list))))
  (pss_one (ps_ret (pe_lst (pa_cons (pv 1) (pa_cons pe_int (pa_cons pe_int pa_nil)))))))), ?_⟩
    -- cells = list(script[:12])
    refine ⟨_, rfl, 12, rfl, a, _, rfl, hS, ?_⟩
    walk_at "n1"
    refine ⟨l1, _, rfl, .inl (SqL.of e1), ?_⟩
    walk_at "n2"
    -- enumerate(script[12:63])
    refine ⟨_, rfl, 12, rfl, 63, rfl, a, _, rfl, S2.seq (S1.seq hS), ?_⟩
    walk_at "n3"
    have q1 : cutV (ns.map V.int) none (some 12) = (ns.take 12).map V.int := by rw [cutV_L, cutL_map]; exact congrArg _ (cutL_pre ns 12)
    have q2 : cutV (ns.map V.int) (some 12) (some 63) = ((ns.take 63).drop 12).map V.int := by rw [cutV_L, cutL_map]; exact congrArg _ (cutL_mid ns 12 63)
    rw [q1] at e1 e2
    rw [q2] at e3
    have m2 : H l2 = none := S1.free n2
    have m3 : H l3 = none := S1.free (S2.free n3)
    have n23 : l2 ≠ l3 := ne_of_none e2 n3
    refine ⟨l3, _, rfl, SqL.of e3, for_it (walk_enum (xs := ((ns.take 63).drop 12).map V.int)) (fun i σ H' => ∃ y2 y3, σ = [some (.ref a), some (.ref l2), y2, y3] ∧ Same H H' ∧ H' l3 = some (.lst (((ns.take 63).drop 12).map V.int)) ∧
      ∃ cs : List Int, H' l2 = some (.lst (cs.map V.int)) ∧ cs.length = min 12 ns.length) ⟨none, none, rfl, (S1.trans S2).trans S3, e3, ns.take 12, S3 _ _ e2, by rw [List.length_take]⟩ ?_ ?_ ?_⟩
    · rintro i σ H' _ ⟨_, _, _, _, x, _⟩
      exact SqL.of x
    · rintro i x σ H4 H5 hi ⟨y2, y3, rfl, s4, x4, cs, c4, hcs⟩ ⟨T1, u, v, rfl, nT, rfl, hu, hv⟩
      cases hu
      rw [List.length_map, List.length_drop, List.length_take] at hi
      replace hv : (((ns.take 63).drop 12).map V.int)[i]? = some v := hv
      rw [List.getElem?_map] at hv
      obtain ⟨z, hz, rfl⟩ := Option.map_eq_some_iff.mp hv
      refine ⟨T1, _, rfl, .inl (.inl upd_same), rfl, _, _, rfl, _, _, rfl, rfl, ?_⟩
      have nT2 : l2 ≠ T1 := ne_of_none c4 nT
      have nT3 : l3 ≠ T1 := ne_of_none x4 nT
      generalize hG : upd H4 T1 _ = G4
      obtain ⟨S4, g4⟩ := nw hG nT
      have ec := S4 _ _ c4
      have h12 : 12 ≤ cs.length := by omega
      have hm : i % 12 < cs.length := by have := Nat.mod_lt i (show 12 > 0 by decide); omega
      have ha : atI (cs.map V.int) ((i : Int) % 12) = some (.int cs[i % 12]) := by
        unfold atI
        rw [List.length_map, ix12 i h12]
        show (cs.map V.int)[i % 12]? = _
        rw [List.getElem?_map, List.getElem?_eq_getElem hm]
        rfl
      walk_at "rd"
      refine ⟨(by show (0 : Int) < _; decide), ?_⟩
      refine ⟨l2, _, _, _, rfl, rfl, SqL.of ec, ha, ?_⟩
      walk_at "rd"
      refine ⟨(by show (0 : Int) < _; decide), ?_⟩
      refine ⟨l2, _, _, _, rfl, rfl, ec, (by rw [List.length_map]; exact ix12 i h12), ?_⟩
      refine ⟨_, _, rfl, fun b o hb => ?_, ?_, cs.set (i % 12) (cs[i % 12] + z), ?_, ?_⟩
      · rw [upd_ne (ne_of_none hb m2)]
        exact S4 _ _ (s4 _ _ hb)
      · rw [upd_ne n23.symm]
        exact S4 _ _ x4
      · rw [upd_same, List.map_set]
      · rw [List.length_set]
        exact hcs
    · rintro σ H4 ⟨y2, y3, rfl, s4, x4, cs, c4, hcs⟩
      refine ⟨_, rfl, (by show 3 ≤ sizeLine; decide), ?_⟩
      walk_at "n5"
      exact k l5 l2 H5 (s4.trans S5) (s4.free n5) m2 ⟨cs, 0, 0, ⟨e5, S5 _ _ c4, by omega⟩, by decide, by decide⟩

/-! ### _law_anew -/
def sp_law_anew : Sp := fun vs H Q _ => ∃ (p c : Addr) (n : Nat), vs = [.ref p] ∧ Pen H p c n ∧ ∀ H', But p H H' → Pen H' p c n → Q (.ref p) H'
theorem ok_law_anew (T : Txt K mg A) : FnOk P w K mg base CX0 1 A.f_law_anew A.d_law_anew ["pen"] sp_law_anew := by
  refine T.F_law_anew.ok sc_law_anew (fun vs H Q E h => ?_) (fun cdv A' outer s H vs Q E hr h => ?_)
  · obtain ⟨a, c, n, rfl, _⟩ := h
    rfl
  · obtain ⟨p, c, n, rfl, hp, k⟩ := h
    refine ⟨_, (pss_cons (ps_asg pe_int (pg_sub (pv 0) pe_int set_list))
  (pss_one (ps_ret (pv 0)))), ?_⟩
    obtain ⟨ns, i, z, hA, h0, h1⟩ := hp
    have ne := hA.ne
    obtain ⟨a1, a2, a3⟩ := hA
    refine ⟨_, rfl, p, _, _, 2, rfl, rfl, a1, rfl, ?_⟩
    generalize hG : upd H p _ = G1
    obtain ⟨B1, f1⟩ := pt hG
    exact ⟨_, rfl, k G1 B1 ⟨ns, i, 0, ⟨f1, B1 _ _ ne a2, a3⟩, h0, h1⟩⟩

/-! ### _law_spread -/
def sp_law_spread : Sp := fun vs H Q _ => ∃ c a : Int, vs = [.int c, .int a] ∧ 0 ≤ a ∧ a ≤ 1048576 ∧ ∀ (r : Int) H', Same H H' → Q (.int r) H'
theorem ok_law_spread (T : Txt K mg A) : FnOk P w K mg base CX0 1 A.f_law_spread A.d_law_spread ["cell", "at"] sp_law_spread := by
  refine T.F_law_spread.ok sc_law_spread (fun vs H Q E h => ?_) (fun cdv A' outer s H vs Q E hr h => ?_)
  · obtain ⟨c, a, rfl, _⟩ := h
    rfl
  · obtain ⟨c, a, rfl, h0, h1, k⟩ := h
    refine ⟨_, (pss_cons (ps_if (pt_cmpR op_ge (pv 0) (pe_op op_pow pe_int pe_int) (nomark _)) (pss_one (ps_ret (pv 0))) pss_nil)
  (pss_cons (ps_set (i := 2) sc_law_spread.nd rfl (by first | exact Or.inl rfl | exact Or.inr rfl) (pe_lst (pa_cons pe_int (pa_cons pe_int (pa_cons pe_int (pa_cons pe_int (pa_cons pe_int (pa_cons pe_int (pa_cons pe_int pa_nil)))))))))
  (pss_cons (ps_set (i := 2) sc_law_spread.nd rfl (by first | exact Or.inl rfl | exact Or.inr rfl) (pe_op op_cat (pv 2) (pe_lst (pa_cons pe_int (pa_cons pe_int (pa_cons pe_int (pa_cons pe_int (pa_cons pe_int (pa_cons pe_int pa_nil)))))))))
  (pss_cons (ps_set (i := 3) sc_law_spread.nd rfl (by first | exact Or.inl rfl | exact Or.inr rfl) (pe_op op_add (pe_op op_add (pe_op op_mul (pe_op op_mod (pv 0) pe_int) (pe_op op_add (pe_op op_mul pe_int (pv 1)) pe_int)) (pe_op op_mul (pv 1) pe_int)) pe_int))
  (pss_cons (ps_set (i := 4) sc_law_spread.nd rfl (by first | exact Or.inl rfl | exact Or.inr rfl) (pe_op op_mod (pe_op op_pow (pv 3) pe_int) (pe_ix (ix_listK (K := K)) (pv 2) (pe_op op_mod (pv 1) pe_int) (fun _ _ => rfl))))
  (pss_cons (ps_set (i := 5) sc_law_spread.nd rfl (by first | exact Or.inl rfl | exact Or.inr rfl) (pe_op op_mod (pe_op op_pow (pe_op op_add (pe_op op_add (pe_op op_mul (pv 4) (pe_op op_add (pv 1) pe_int)) (pe_op op_mod (pv 0) pe_int)) pe_int) pe_int) (pe_ix (ix_listK (K := K)) (pv 2) (pe_op op_mod (pe_op op_add (pv 1) pe_int) pe_int) (fun _ _ => rfl))))
  (pss_cons (ps_set (i := 6) sc_law_spread.nd rfl (by first | exact Or.inl rfl | exact Or.inr rfl) (pe_op op_mod (pe_op op_pow (pe_op op_add (pe_op op_add (pv 5) (pe_op op_mod (pv 4) pe_int)) (pv 1)) pe_int) (pe_ix (ix_listK (K := K)) (pv 2) (pe_op op_mod (pe_op op_add (pv 1) pe_int) pe_int) (fun _ _ => rfl))))
  (pss_one (ps_ret (pe_op op_add (pe_op op_mul (pe_op op_add (pe_op op_mul (pv 4) pe_int) (pv 5)) pe_int) (pv 6))))))))))), ?_⟩
    refine ⟨_, rfl, _, _, rfl, rfl, ⟨by decide, by decide, by decide⟩, _, _, rfl, rfl, _, rfl, ite2 (fun e => ⟨_, rfl, k c H (Same.refl H)⟩) (fun e => ?_)⟩
    refine ⟨by decide, ?_⟩
    walk_at "n1"
    refine ⟨_, rfl, by decide, ?_⟩
    walk_at "n2"
    refine ⟨l1, l2, _, _, rfl, rfl, S2 _ _ e1, e2, by decide, ?_⟩
    walk_at "n3"
    have hP : SqL K H3 l3 (primesL.map V.int) := SqL.of e3
    have S : Same H H3 := (S1.trans S2).trans S3
    clear e1 e2 e3 n1 n2 n3 S1 S2 S3
    obtain ⟨q1, a1, b1, d1⟩ := primes_at a
    obtain ⟨q2, a2, b2, d2⟩ := primes_at (a + 5)
    obtain ⟨q3, a3, b3, d3⟩ := primes_at (a + 7)
    -- mixed
    walk_at "rd"
    refine ⟨(by show (0 : Int) < _; decide), ?_⟩
    walk_at "rd"
    refine ⟨.inl ⟨by decide, by decide⟩, ?_⟩
    walk_at "rd"
    refine ⟨.inl ⟨by omega, by omega⟩, ?_⟩
    walk_at "rd"
    refine ⟨.inl ⟨by omega, by omega⟩, ?_⟩
    walk_at "rd"
    -- one
    refine ⟨⟨by decide, by decide, mixed_lt c a h0 h1⟩, ?_⟩
    walk_at "rd"
    refine ⟨(by show (0 : Int) < _; decide), ?_⟩
    refine ⟨_, _, _, _, rfl, rfl, hP, a1, ?_⟩
    refine ⟨_, _, rfl, rfl, (by show (0 : Int) < q1; omega), ?_⟩
    generalize (c % 1000000007 * (2 * a + 69069) + a * 40503 + 977) ^ Int.toNat 3 = m1
    have r1 := rest_in (x := m1) b1 d1
    -- two
    walk_at "rd"
    refine ⟨.inl ⟨by omega, by omega⟩, ?_⟩
    walk_at "rd"
    refine ⟨(by show (0 : Int) < _; decide), ?_⟩
    walk_at "rd"
    refine ⟨⟨by decide, by decide, two_lt c a (m1 % q1) h0 h1 r1.1 r1.2⟩, ?_⟩
    walk_at "rd"
    refine ⟨(by show (0 : Int) < _; decide), ?_⟩
    refine ⟨_, _, _, _, rfl, rfl, hP, a2, ?_⟩
    refine ⟨_, _, rfl, rfl, (by show (0 : Int) < q2; omega), ?_⟩
    generalize (m1 % q1 * (a + 3) + c % 65537 + 5) ^ Int.toNat 5 = m2
    have r2 := rest_in (x := m2) b2 d2
    -- three
    walk_at "rd"
    refine ⟨(by show (0 : Int) < _; decide), ?_⟩
    walk_at "rd"
    refine ⟨⟨by decide, by decide, three_lt a (m1 % q1) (m2 % q2) h0 h1 r2.1 r2.2⟩, ?_⟩
    walk_at "rd"
    refine ⟨(by show (0 : Int) < _; decide), ?_⟩
    refine ⟨_, _, _, _, rfl, rfl, hP, a3, ?_⟩
    refine ⟨_, _, rfl, rfl, (by show (0 : Int) < q3; omega), ?_⟩
    walk_at "rd"
    refine ⟨.inr ⟨by decide, by decide⟩, ?_⟩
    walk_at "rd"
    refine ⟨.inr ⟨by decide, by decide⟩, ?_⟩
    walk_at "rd"
    exact k _ H3 S

/-! ### _law_take -/
def sp_law_take : Sp := fun vs H Q _ => ∃ (p c : Addr) (n m : Nat), vs = [.ref p, .int (m : Int)] ∧ Pen H p c n ∧ n ≤ 1000000 ∧ 0 < m ∧ m < 1073741824 ∧
  ∀ (r : Nat) H', r < m → But p H H' → Pen H' p c (n + 1) → Q (.int (r : Int)) H'
def t_take_end (K : PySem.W.Frag) : TS := tSeq (tAsg (tOp (rI (fun _ j => 0 < j) fun i j => V.int (i % j)) (tOp (rIxL K) (tVar 0) (tC (.int 2))) (tVar 1)) (gName 4))
  (tSeq (tAsg (tOp (rI CDiv fun i j => V.int (i / j)) (tOp (rIxL K) (tVar 0) (tC (.int 2))) (tVar 1)) (gSub (tVar 0) (tC (.int 2)) rSetL)) (tRet (tVar 4)))
def t_take_mid : TS := tSeq (tAsg (tOp (rI0 fun i j => V.int (i + j)) (tVar 2) (tC (.int 1))) (gSub (tVar 0) (tC (.int 1)) rSetL))
  (tAsg (tCall sp_law_spread [] E0 (tCons (tVar 3) (tCons (tVar 2) tNil))) (gSub (tVar 0) (tC (.int 2)) rSetL))
theorem ok_law_take (T : Txt K mg A) : FnOk P w K mg base CX0 2 A.f_law_take A.d_law_take ["pen", "many"] sp_law_take := by
  refine T.F_law_take.ok sc_law_take (fun vs H Q E h => ?_) (fun cdv A' outer s H vs Q E hr h => ?_)
  · obtain ⟨p, c, n, m, rfl, _⟩ := h
    rfl
  · obtain ⟨p, c, n, m, rfl, hp, hn, hm0, hm1, k⟩ := h
    refine ⟨_, (pss_cons (ps_if (pt_cmpR op_lt (pe_ix (ix_listK (K := K)) (pv 0) pe_int (fun _ _ => rfl)) (pv 1) (nomark _)) (pss_cons (ps_set (i := 2) sc_law_take.nd rfl (by first | exact Or.inl rfl | exact Or.inr rfl) (pe_ix (ix_listK (K := K)) (pv 0) pe_int (fun _ _ => rfl)))
  (pss_cons (ps_set (i := 3) sc_law_take.nd rfl (by first | exact Or.inl rfl | exact Or.inr rfl) pe_int)
  (pss_cons (ps_if (pt_cmpR op_lt (pv 2) (pe_callB (call_lenK (K := K)) (by rfl) T.len PySem.boot_len (pa_cons (pe_ix (ix_listK (K := K)) (pv 0) pe_int (fun _ _ => rfl)) pa_nil)) (nomark _)) (pss_one (ps_set (i := 3) sc_law_take.nd rfl (by first | exact Or.inl rfl | exact Or.inr rfl) (pe_ix (ix_listK (K := K)) (pe_ix (ix_listK (K := K)) (pv 0) pe_int (fun _ _ => rfl)) (pv 2) (fun _ _ => rfl)))) (pss_one (ps_if (pt_cmpR op_gt (pe_callB (call_lenK (K := K)) (by rfl) T.len PySem.boot_len (pa_cons (pe_ix (ix_listK (K := K)) (pv 0) pe_int (fun _ _ => rfl)) pa_nil)) pe_int (nomark _)) (pss_one (ps_set (i := 3) sc_law_take.nd rfl (by first | exact Or.inl rfl | exact Or.inr rfl) (pe_op op_mod (pe_ix (ix_listK (K := K)) (pe_ix (ix_listK (K := K)) (pv 0) pe_int (fun _ _ => rfl)) (pe_op op_mod (pe_op op_add (pe_op op_mul (pv 2) pe_int) pe_int) (pe_callB (call_lenK (K := K)) (by rfl) T.len PySem.boot_len (pa_cons (pe_ix (ix_listK (K := K)) (pv 0) pe_int (fun _ _ => rfl)) pa_nil))) (fun _ _ => rfl)) (pe_op op_add (pe_op op_pow pe_int pe_int) (pv 2))))) pss_nil)))
  (pss_cons (ps_asg (pe_op op_add (pv 2) pe_int) (pg_sub (pv 0) pe_int set_list))
  (pss_one (ps_asg (pe_call (ok_law_spread T) hr (by rfl) T.g_law_spread T.F_law_spread.kp T.b_law_spread .nil pass0 (pa_cons (pv 3) (pa_cons (pv 2) pa_nil))) (pg_sub (pv 0) pe_int set_list))))))) pss_nil)
  (pss_cons (ps_set (i := 4) sc_law_take.nd rfl (by first | exact Or.inl rfl | exact Or.inr rfl) (pe_op op_mod (pe_ix (ix_listK (K := K)) (pv 0) pe_int (fun _ _ => rfl)) (pv 1)))
  (pss_cons (ps_asg (pe_op op_fdiv (pe_ix (ix_listK (K := K)) (pv 0) pe_int (fun _ _ => rfl)) (pv 1)) (pg_sub (pv 0) pe_int set_list))
  (pss_one (ps_ret (pv 4)))))), ?_⟩
    -- the last three rows: found, the rest, the return
    have fin : ∀ (H1 : Hp) (σ : L2.St) (x2 x3 : Option V), But p H H1 → (∃ ns i z, PenAt H1 p c ns i z ∧ 0 ≤ i ∧ i ≤ ((n + 1 : Nat) : Int)) → σ = [some (.ref p), some (.int m), x2, x3, none] →
        t_take_end K { nx := fun _ H' => Q .non H', rt := Q } σ H1 := by
      rintro H1 σ x2 x3 B1 ⟨ns, i, z, hA, h0, h1⟩ rfl
      have ne := hA.ne
      obtain ⟨a1, a2, a3⟩ := hA
      refine ⟨_, rfl, p, _, _, _, rfl, rfl, SqL.of a1, atI_nat (j := 2) rfl, ?_⟩
      walk_at "rd"
      refine ⟨(by show (0 : Int) < m; omega), ?_⟩
      refine ⟨_, rfl, p, _, _, _, rfl, rfl, SqL.of a1, atI_nat (j := 2) rfl, ?_⟩
      walk_at "rd"
      refine ⟨⟨(by show (0 : Int) < m; omega), (by show (m : Int) < 1073741824; omega)⟩, ?_⟩
      refine ⟨_, rfl, p, _, _, 2, rfl, rfl, a1, rfl, ?_⟩
      generalize hG : upd H1 p _ = G1
      obtain ⟨B2, f2⟩ := pt hG
      refine ⟨_, rfl, ?_⟩
      have r0 : 0 ≤ z % (m : Int) := Int.emod_nonneg _ (by omega)
      have r1 : z % (m : Int) < m := Int.emod_lt_of_pos _ (by omega)
      obtain ⟨r, hr'⟩ := Int.eq_ofNat_of_zero_le r0
      have q := k r G1 (by omega) (B1.trans B2) ⟨ns, i, z / m, ⟨f2, B2 _ _ ne a2, a3⟩, h0, h1⟩
      rw [← hr'] at q
      exact q
    obtain ⟨ns, i, z, hA, h0, h1⟩ := hp
    have ne := hA.ne
    obtain ⟨a1, a2, a3⟩ := hA
    -- pen[2] < many
    refine ⟨_, rfl, p, _, _, _, rfl, rfl, SqL.of a1, atI_nat (j := 2) rfl, ?_⟩
    walk_at "rd"
    refine ite2 (fun e => ?_) (fun e => ?_)
    · -- at = pen[1]; cell = 0
      refine ⟨_, rfl, p, _, _, _, rfl, rfl, SqL.of a1, atI_nat (j := 1) rfl, ?_⟩
      -- pen[1] = at + 1; pen[2] = _law_spread(cell, at)
      have go : ∀ (σ : L2.St) (z3 : Int), σ = [some (.ref p), some (.int m), some (.int i), some (.int z3), none] →
          t_take_mid { nx := t_take_end K { nx := fun _ H' => Q .non H', rt := Q }, rt := Q } σ H := by
        rintro σ z3 rfl
        walk_at "rd"
        refine ⟨p, _, _, 1, rfl, rfl, a1, rfl, ?_⟩
        generalize hG : upd H p _ = G1
        obtain ⟨B1, f1⟩ := pt hG
        refine ⟨_, rfl, _, rfl, _, _, rfl, h0, (by omega), fun r G2 S2 => ?_⟩
        refine ⟨_, rfl, p, _, _, 2, rfl, rfl, S2 _ _ f1, rfl, ?_⟩
        generalize hG3 : upd G2 p _ = G3
        obtain ⟨B3, f3⟩ := pt hG3
        refine fin G3 _ _ _ ((B1.trans (But.of_same S2)).trans B3) ⟨ns, i + 1, r, ⟨f3, B3 _ _ ne (S2 _ _ (B1 _ _ ne a2)), a3⟩, by omega, by omega⟩ rfl
      -- at < len(pen[0])
      refine ⟨_, rfl, _, rfl, p, _, _, _, rfl, rfl, SqL.of a1, atI_nat (j := 0) rfl, ?_⟩
      refine ⟨c, _, rfl, .inl (SqL.of a2), ?_⟩
      walk_at "rd"
      refine ite2 (fun e2 => ?_) (fun e2 => ?_)
      · have l2 : i < (ns.map V.int).length := of_decide_eq_true e2
        rw [List.length_map] at l2
        obtain ⟨j, hj⟩ := Int.eq_ofNat_of_zero_le h0
        refine ⟨_, rfl, p, _, _, _, rfl, rfl, SqL.of a1, atI_nat (j := 0) rfl, ?_⟩
        refine ⟨_, rfl, c, _, _, .int (ns[j]'(by omega)), rfl, rfl, SqL.of a2, at_of hj (by rw [List.getElem?_map, List.getElem?_eq_getElem (show j < ns.length by omega)]; rfl), ?_⟩
        exact go _ _ rfl
      · refine ⟨_, rfl, p, _, _, _, rfl, rfl, SqL.of a1, atI_nat (j := 0) rfl, ?_⟩
        refine ⟨c, _, rfl, .inl (SqL.of a2), ?_⟩
        walk_at "rd"
        refine ite2 (fun e3 => ?_) (fun e3 => go _ 0 rfl)
        have l3 : 0 < ((ns.map V.int).length : Int) := of_decide_eq_true e3
        rw [List.length_map] at l3
        refine ⟨_, rfl, p, _, _, _, rfl, rfl, SqL.of a1, atI_nat (j := 0) rfl, ?_⟩
        walk_at "rd"
        refine ⟨.inr ⟨by decide, by decide⟩, ?_⟩
        walk_at "rd"
        refine ⟨p, _, _, _, rfl, rfl, SqL.of a1, atI_nat (j := 0) rfl, ?_⟩
        refine ⟨c, _, rfl, .inl (SqL.of a2), ?_⟩
        refine ⟨_, _, rfl, rfl, (by show (0 : Int) < ((ns.map V.int).length : Int); rw [List.length_map]; exact l3), ?_⟩
        have u0 : 0 ≤ (i * 5 + 3) % ((ns.map V.int).length : Int) := Int.emod_nonneg _ (by rw [List.length_map]; omega)
        have u1 : (i * 5 + 3) % ((ns.map V.int).length : Int) < ((ns.map V.int).length : Int) := Int.emod_lt_of_pos _ (by rw [List.length_map]; omega)
        obtain ⟨j, hj⟩ := Int.eq_ofNat_of_zero_le u0
        have hj2 : j < ns.length := by rw [List.length_map] at u1; rw [List.length_map] at hj; omega
        refine ⟨c, _, _, .int (ns[j]'hj2), rfl, rfl, SqL.of a2, at_of hj (by rw [List.getElem?_map, List.getElem?_eq_getElem hj2]; rfl), ?_⟩
        walk_at "rd"
        refine ⟨⟨by decide, by decide, by decide⟩, ?_⟩
        walk_at "rd"
        refine ⟨(by show (0 : Int) < 10 ^ Int.toNat 17 + i; have : (0 : Int) < 10 ^ Int.toNat 17 := by decide
                    omega), ?_⟩
        exact go _ _ rfl
    · refine fin H _ none none (But.refl p H) ⟨ns, i, z, ⟨a1, a2, a3⟩, h0, by omega⟩ rfl

/-! ### _law_one -/
def sp_law_one (K : PySem.W.Frag) : Sp := fun vs H Q _ => ∃ (p c : Addr) (n : Nat) (x : V), vs = [.ref p, x] ∧ Pen H p c n ∧ n ≤ 1000000 ∧
  ((∃ (a : Addr) (xs : List V), x = .ref a ∧ SqL K H a xs ∧ a ≠ p ∧ 0 < xs.length ∧ xs.length < 1073741824 ∧ ∀ (r : Nat) v H', xs[r]? = some v → But p H H' → Pen H' p c (n + 1) → Q v H') ∨
   (∃ z : Str, x = .str z ∧ 0 < z.length ∧ z.length ≤ sizeLine ∧ ∀ (r : Nat) (d : Nat) H', z.cps.toList[r]? = some d → But p H H' → Pen H' p c (n + 1) → Q (.str ⟨#[d]⟩) H'))
theorem ok_law_one (T : Txt K mg A) : FnOk P w K mg base CX0 3 A.f_law_one A.d_law_one ["pen", "some"] (sp_law_one K) := by
  refine T.F_law_one.ok sc_law_one (fun vs H Q E h => ?_) (fun cdv A' outer s H vs Q E hr h => ?_)
  · obtain ⟨p, c, n, x, rfl, _⟩ := h
    rfl
  · obtain ⟨p, c, n, x, rfl, hp, hn, h⟩ := h
    rcases h with ⟨a, xs, rfl, hS, ne, h0, h1, k⟩ | ⟨z, rfl, h0, h1, k⟩
    · refine ⟨_, (pss_one (ps_ret (pe_ix (ix_listK (K := K)) (pv 1) (pe_call (ok_law_take T) hr (by rfl) T.g_law_take T.F_law_take.kp T.b_law_take .nil pass0 (pa_cons (pv 0) (pa_cons (pe_callB (call_lenK (K := K)) (by rfl) T.len PySem.boot_len (pa_cons (pv 1) pa_nil)) pa_nil))) (fun _ _ => rfl)))), ?_⟩
      refine ⟨_, rfl, _, rfl, _, rfl, a, xs, rfl, .inl hS, p, c, n, xs.length, rfl, hp, hn, h0, h1, fun r H' hr' B hp' => ?_⟩
      exact ⟨a, xs, _, xs[r], rfl, rfl, B.seq ne hS, atI_nat (List.getElem?_eq_getElem hr'), k r _ H' (List.getElem?_eq_getElem hr') B hp'⟩
    · refine ⟨_, (pss_one (ps_ret (pe_ix ix_str (pv 1) (pe_call (ok_law_take T) hr (by rfl) T.g_law_take T.F_law_take.kp T.b_law_take .nil pass0 (pa_cons (pv 0) (pa_cons (pe_callB call_len_str (by rfl) T.len PySem.boot_len (pa_cons (pv 1) pa_nil)) pa_nil))) (fun _ _ => rfl)))), ?_⟩
      have hz : z.length = z.cps.toList.length := rfl
      have hsz : sizeLine = 16777216 := sizeLine_eq
      refine ⟨_, rfl, _, rfl, _, rfl, z, rfl, h1, p, c, n, z.length, rfl, hp, hn, h0, by omega, fun r H' hr' B hp' => ?_⟩
      have e : z.cps.toList[r]? = some (z.cps.toList[r]'(by omega)) := List.getElem?_eq_getElem (by omega)
      exact ⟨z, _, _, rfl, rfl, h1, atI_nat e, k r _ H' e B hp'⟩

/-! ### _law_drawn -/
/-- all numbers below m, each once, in some order -/
def Drawn (ks : List Nat) (m : Nat) : Prop := ks.Nodup ∧ ks.length = m ∧ ∀ k ∈ ks, k < m
theorem Drawn.insert {ks : List Nat} {m r : Nat} (h : Drawn ks m) : Drawn (ks.take r ++ [m] ++ ks.drop r) (m + 1) := by
  obtain ⟨h1, h2, h3⟩ := h
  have e : (ks.take r ++ [m] ++ ks.drop r).Perm (m :: ks) := by
    rw [List.append_assoc]
    refine List.perm_middle.trans ?_
    exact List.Perm.of_eq (congrArg _ (List.take_append_drop r ks))
  refine ⟨?_, ?_, fun k hk => ?_⟩
  · rw [e.nodup_iff]
    exact List.nodup_cons.mpr ⟨fun z => absurd (h3 m z) (Nat.lt_irrefl m), h1⟩
  · rw [e.length_eq, List.length_cons, h2]
  · have hk' := e.mem_iff.mp hk
    rcases List.mem_cons.mp hk' with rfl | q
    · exact Nat.lt_succ_self _
    · exact Nat.lt_succ_of_lt (h3 k q)
def sp_law_drawn : Sp := fun vs H Q _ => ∃ (p c : Addr) (n m : Nat), vs = [.ref p, .int (m : Int)] ∧ Pen H p c n ∧ n + m ≤ 1000000 ∧
  ∀ (l : Addr) (ks : List Nat) H', Drawn ks m → H l = none → H' l = some (.lst (ks.map vN)) → But p H H' → Pen H' p c (n + m) → Q (.ref l) H'
theorem ok_law_drawn (T : Txt K mg A) : FnOk P w K mg base CX0 3 A.f_law_drawn A.d_law_drawn ["pen", "many"] sp_law_drawn := by
  refine T.F_law_drawn.ok sc_law_drawn (fun vs H Q E h => ?_) (fun cdv A' outer s H vs Q E hr h => ?_)
  · obtain ⟨p, c, n, m, rfl, _⟩ := h
    rfl
  · obtain ⟨p, c, n, m, rfl, hp, hn, k⟩ := h
    refine ⟨_, (pss_cons (ps_set (i := 2) sc_law_drawn.nd rfl (by first | exact Or.inl rfl | exact Or.inr rfl) (pe_lst pa_nil))
  (pss_cons (ps_for PassesOwn.never rfl (pi_range1 (by rfl) T.range (pa_cons (pv 1) pa_nil)) (pg_name (i := 3) sc_law_drawn.nd rfl (by first | exact Or.inl rfl | exact Or.inr rfl)) (pss_one (ps_expr (pe_bm PySem.F.plainAttrs_list PySem.F.slot_list_insert PySem.F.type_list_insert mt_insert (pv 2) (pa_cons (pe_call (ok_law_take T) hr (by rfl) T.g_law_take T.F_law_take.kp T.b_law_take .nil pass0 (pa_cons (pv 0) (pa_cons (pe_op op_add (pv 3) pe_int) pa_nil))) (pa_cons (pv 3) pa_nil))))))
  (pss_one (ps_ret (pv 2))))), ?_⟩
    refine ⟨Nat.zero_le _, ?_⟩
    walk_at "n1"
    have np := hp.ne_free n1
    refine ⟨_, rfl, (m : Int), rfl, by omega, by omega, for_it walk_rangeN (fun i σ H' => ∃ y3, ∃ ks : List Nat, σ = [some (.ref p), some (.int (m : Int)), some (.ref l1), y3] ∧ But p H H' ∧ Pen H' p c (n + i) ∧ Drawn ks i ∧
      H' l1 = some (.lst (ks.map vN))) ⟨none, [], rfl, But.of_same S1, hp.same S1, ⟨List.nodup_nil, rfl, fun _ h => nomatch h⟩, e1⟩ (fun _ _ _ _ _ => trivial) ?_ ?_⟩
    · rintro i x σ H2 H3 hi ⟨y3, ks, rfl, B2, P2, D2, g2⟩ ⟨rfl, rfl⟩
      rw [Int.toNat_natCast] at hi
      refine ⟨_, rfl, .inl ⟨rfl, _, SqL.of g2⟩, _, rfl, _, rfl, _, _, rfl, rfl, p, c, n + i, i + 1, ?_, P2, by omega, by omega, by omega, fun r H4 hr4 B4 P4 => ?_⟩
      · rfl
      · have g4 := B4 _ _ np.1 g2
        refine ⟨_, rfl, l1, _, _, _, rfl, rfl, g4, ?_, by omega, by omega, ?_⟩
        · rw [List.length_map, D2.2.1]
          have hsz : sizeLine = 16777216 := sizeLine_eq
          omega
        · refine ⟨_, _, rfl, (B2.trans B4).own n1, P4.list np, D2.insert (r := r), ?_⟩
          rw [upd_same, Int.toNat_natCast, List.map_append, List.map_append, List.map_take, List.map_drop]
          rfl
    · rintro σ H2 ⟨y3, ks, rfl, B2, P2, D2, g2⟩
      rw [Int.toNat_natCast] at P2 D2
      exact ⟨_, rfl, k l1 ks H2 D2 n1 g2 B2 P2⟩

/-! ### _law_pattern -/
theorem cap_at {k : Nat} (h : k < 26) : capL[k]? = some (capL[k]?.getD 0) := by
  rw [List.getElem?_eq_getElem (show k < capL.length from h)]
  rfl
theorem cap_mem {k : Nat} (h : k < 26) : capL[k]?.getD 0 ∈ capL := List.mem_of_getElem? (cap_at h)
theorem cap_item {k : Nat} (h : k < 26) : atI ((("ABCDEFGHIJKLMNOPQRSTUVWXYZ" : String) : Str)).cps.toList (k : Int) = some (capL[k]?.getD 0) := by
  rw [capS]
  exact atI_nat (cap_at h)
def sp_law_pattern : Sp := fun vs H Q _ => ∃ (p c : Addr) (n most many : Nat), vs = [.ref p, .int (most : Int), .int (many : Int)] ∧ Pen H p c n ∧ n + 28 + most ≤ 1000000 ∧ 0 < most ∧ most ≤ 100 ∧ 0 < many ∧ many ≤ 26 ∧
  ∀ (l : List Nat) H', 1 ≤ l.length → l.length ≤ most → (∀ c ∈ l, c ∈ capL) → (dist l).length ≤ many → But p H H' → Pen H' p c (n + 28 + most) → Q (.str (S l)) H'
theorem ok_law_pattern (T : Txt K mg A) : FnOk P w K mg base CX0 4 A.f_law_pattern A.d_law_pattern ["pen", "most", "many"] sp_law_pattern := by
  refine T.F_law_pattern.ok sc_law_pattern (fun vs H Q E h => ?_) (fun cdv A' outer s H vs Q E hr h => ?_)
  · obtain ⟨p, c, n, most, many, rfl, _⟩ := h
    rfl
  · obtain ⟨p, c, n, most, many, rfl, hp, hn, h1, h2, h3, h4, k⟩ := h
    refine ⟨_, (pss_cons (ps_set (i := 3) sc_law_pattern.nd rfl (by first | exact Or.inl rfl | exact Or.inr rfl) (pe_call (ok_law_drawn T) hr (by rfl) T.g_law_drawn T.F_law_drawn.kp T.b_law_drawn .nil pass0 (pa_cons (pv 0) (pa_cons pe_int pa_nil))))
  (pss_cons (ps_set (i := 4) sc_law_pattern.nd rfl (by first | exact Or.inl rfl | exact Or.inr rfl) (pe_lc (own := [("place", 5)]) (g := gName 5) (tt := tYes) (by rfl) sc_law_pattern.nd (pi_list (pe_slice (sl_listK (K := K)) (pv 3) po_none (po_some (pe_op op_add pe_int (pe_call (ok_law_take T) (hr.mono (by decide)) (by rfl) T.g_law_take T.F_law_take.kp T.b_law_take .nil pass0 (pa_cons (pv 0) (pa_cons (pv 2) pa_nil))))))) (blkOk_by (own := [("place", 5)]) (N := ["pen", "most", "many", "order", "letters", "place", "step"]) (sc := defScope s_law_pattern) (by decide +kernel)) (fun _ _ _ _ _ => (pg_name (i := 5) sc_law_pattern.nd rfl (by first | exact Or.inl rfl | exact Or.inr rfl))) (fun _ _ _ _ _ => pts_nil) (fun _ _ _ _ _ => (pe_ix ix_str pe_str (pv 5) (fun _ _ => rfl)))))
  (pss_one (ps_ret (pe_join pe_str (pe_lc (own := [("step", 6)]) (g := gName 6) (tt := tYes) (by rfl) sc_law_pattern.nd (pi_range1 (by rfl) T.range (pa_cons (pe_op op_add pe_int (pe_call (ok_law_take T) (hr.mono (by decide)) (by rfl) T.g_law_take T.F_law_take.kp T.b_law_take .nil pass0 (pa_cons (pv 0) (pa_cons (pv 1) pa_nil)))) pa_nil)) (blkOk_by (own := [("step", 6)]) (N := ["pen", "most", "many", "order", "letters", "place", "step"]) (sc := defScope s_law_pattern) (by decide +kernel)) (fun _ _ _ _ _ => (pg_name (i := 6) sc_law_pattern.nd rfl (by first | exact Or.inl rfl | exact Or.inr rfl))) (fun _ _ _ _ _ => pts_nil) (fun _ _ _ _ _ => (pe_call (ok_law_one T) hr (by rfl) T.g_law_one T.F_law_one.kp T.b_law_one .nil pass0 (pa_cons (pv 0) (pa_cons (pv 4) pa_nil)))))))))), ?_⟩
    -- order
    refine ⟨_, rfl, p, c, n, 26, rfl, hp, by omega, fun o ks H1 D1 n1 e1 B1 P1 => ?_⟩
    have no := hp.ne_free n1
    -- order[:1 + _law_take(pen, many)]
    refine ⟨_, rfl, _, rfl, _, rfl, p, c, n + 26, many, rfl, P1, by omega, by omega, by omega, fun r H2 hr2 B2 P2 => ?_⟩
    have e2 := B2 _ _ no.1 e1
    refine ⟨_, _, rfl, rfl, _, rfl, o, _, rfl, SqL.of e2, ?_⟩
    walk_at "n3"
    rw [show (1 + (r : Int)) = ((1 + r : Nat) : Int) by omega, cutV_L, cutL_map, cutL_pre] at e3
    have D1' : ∀ k ∈ ks.take (1 + r), k < 26 := fun k hk => D1.2.2 k (List.mem_of_mem_take hk)
    have hlen : (ks.take (1 + r)).length ≤ many := by rw [List.length_take]; omega
    have hpos : 0 < (ks.take (1 + r)).length := by rw [List.length_take, D1.2.1]; omega
    have P3 := P2.same S3
    have B3 := (B1.trans B2).trans (But.of_same S3)
    generalize ks.take (1 + r) = is at e3 D1' hlen hpos
    clear e1 e2 P1 P2 B1 B2 S3 n1
    -- letters
    refine ⟨l3, rfl, ⟨_, SqL.of e3⟩, fun D hD => ?_⟩
    have w3 : Walk (Itl K l3) is.length (fun H => SqL K H l3 (is.map vN)) (YAt (is.map vN)) := by
      have w := walk_list (K := K) (a := l3) (xs := is.map vN)
      rw [List.length_map] at w
      exact w
    refine lc_map is (fun k => .str (S [capL[k]?.getD 0])) w3 hD (by have := hlen; omega) (fun H' s => s.seq (SqL.of e3)) ?_ ?_
    · rintro i a x H4 H5 R ha s4 ⟨rfl, hx⟩ hR
      rw [List.getElem?_map, ha] at hx
      obtain rfl := Option.some.inj hx
      have ha26 := D1' a (List.mem_of_getElem? ha)
      refine ⟨rfl, _, rfl, _, _, capL[a]?.getD 0, rfl, rfl, by decide +kernel, cap_item ha26, hR H5 (Same.refl H5)⟩
    · intro H4 s4 g4
      have P4 := P3.same s4
      have B4 := B3.trans (But.of_same s4)
      have nD := P3.ne_free hD
      -- the text
      refine ⟨⟨_, rfl⟩, _, rfl, _, rfl, p, c, n + 27, most, rfl, P4, by omega, by omega, by omega, fun r5 H5 hr5 B5 P5 => ?_⟩
      refine ⟨_, _, rfl, rfl, (1 + (r5 : Int)), rfl, by omega, by omega, fun D2 hD2 => ?_⟩
      have g5 := B5 _ _ nD.1 g4
      have nD2 := P5.ne_free hD2
      have m2 : D2 ≠ D := (ne_of_none g5 hD2).symm
      rw [show (1 + (r5 : Int)).toNat = 1 + r5 by omega]
      refine lc_it walk_rangeN (fun i H' => But p H H' ∧ Pen H' p c (n + 28 + i) ∧ H' D = some (.lst (is.map fun k => V.str (S [capL[k]?.getD 0]))) ∧ ∃ cs : List Nat, cs.length = i ∧ (∀ c ∈ cs, c ∈ is.map fun k => capL[k]?.getD 0) ∧
        H' D2 = some (.lst (cs.map fun c => V.str (S [c])))) ⟨(B4.trans B5).new hD2, P5.new hD2, by rw [upd_ne m2.symm]; exact g5, [], rfl, (fun _ h => nomatch h), upd_same⟩ (fun _ _ _ _ => trivial) ?_ ?_
      · rintro i x H6 H7 hi ⟨B6, P6, g6, cs, hcs, hin, c6⟩ ⟨rfl, rfl⟩
        refine ⟨rfl, yesT ⟨_, rfl, _, rfl, p, c, n + 28 + i, _, rfl, P6, by omega, .inl ⟨D, _, rfl, SqL.of g6, nD.1, ?_, ?_, fun r8 v H8 hv B8 P8 => ?_⟩⟩⟩
        · rw [List.length_map]; exact hpos
        · rw [List.length_map]; omega
        · rw [List.getElem?_map] at hv
          obtain ⟨k, hk, rfl⟩ := Option.map_eq_some_iff.mp hv
          refine ⟨_, B8 _ _ nD2.1 c6, ?_, (B6.trans B8).own ?_, P8.list nD2, ?_, cs ++ [capL[k]?.getD 0], ?_, ?_, ?_⟩
          · rw [List.length_map, hcs, sizeLine_eq]; omega
          · exact (B4.trans B5).free hD2 nD2.1
          · rw [upd_ne m2.symm]; exact B8 _ _ nD.1 g6
          · rw [List.length_append, hcs]; rfl
          · intro d hd
            rcases List.mem_append.mp hd with h | h
            · exact hin d h
            · rw [List.mem_singleton] at h
              subst h
              exact List.mem_map.mpr ⟨k, List.mem_of_getElem? hk, rfl⟩
          · rw [upd_same, List.map_append]
            rfl
      · rintro H6 ⟨B6, P6, g6, cs, hcs, hin, c6⟩
        rw [map_sg (fun c => c)] at c6
        refine ⟨S [], D2, _, rfl, rfl, .inl (SqL.of c6), join_ok1 _ (by omega), ?_⟩
        rw [join0, flat1, List.map_id']
        refine k cs H6 (by omega) (by omega) (fun d hd => ?_) ?_ B6 (P6.mono (by omega))
        · obtain ⟨k, hk, rfl⟩ := List.mem_map.mp (hin d hd)
          exact cap_mem (D1' k hk)
        · refine Nat.le_trans (dist_few hin) ?_
          rw [List.length_map]
          exact hlen

/-! ### _law_letters -/
def sp_law_letters : Sp := fun vs H Q _ => ∃ l : List Nat, vs = [.str (S l)] ∧ l.length ≤ 20000 ∧ Q (.str (S (dist l))) H
theorem ok_law_letters (T : Txt K mg A) : FnOk P w K mg base CX0 1 A.f_law_letters A.d_law_letters ["pattern"] sp_law_letters := by
  refine T.F_law_letters.ok sc_law_letters (fun vs H Q E h => ?_) (fun cdv A' outer s H vs Q E hr h => ?_)
  · obtain ⟨l, rfl, _⟩ := h
    rfl
  · obtain ⟨l, rfl, hl, k⟩ := h
    refine ⟨_, (pss_cons (ps_set (i := 1) sc_law_letters.nd rfl (by first | exact Or.inl rfl | exact Or.inr rfl) pe_str)
  (pss_cons (ps_for PassesOwn.never rfl (pi_str (pv 0)) (pg_name (i := 2) sc_law_letters.nd rfl (by first | exact Or.inl rfl | exact Or.inr rfl)) (pss_one (ps_set (i := 1) sc_law_letters.nd rfl (by first | exact Or.inl rfl | exact Or.inr rfl) (pe_op op_add_str (pv 1) (pe_op op_repS (pv 2) (pe_callTy call_int1 (by rfl) T.int (by decide +kernel) (pa_cons (pe_cmpR op_notIn_sign (pv 2) (pv 1) rfl) pa_nil)))))))
  (pss_one (ps_ret (pv 1))))), ?_⟩
    refine ⟨_, rfl, S l, rfl, for_it walk_S (fun i σ H' => ∃ y, σ = [some (.str (S l)), some (.str (S (dist (l.take i)))), y] ∧ H' = H) ⟨none, rfl, rfl⟩ (fun _ _ _ _ _ => trivial) ?_ ?_⟩
    · rintro i x σ H2 H3 hi ⟨y, rfl, rfl⟩ ⟨rfl, c, hc, rfl⟩
      have hd := dist_len (l.take i)
      rw [List.length_take] at hd
      have e : dist (l.take (i + 1)) = if c ∈ dist (l.take i) then dist (l.take i) else dist (l.take i) ++ [c] := by
        rw [List.take_add_one, hc, Option.toList_some, dist_snoc]
      refine ⟨_, rfl, _, rfl, _, rfl, _, rfl, c, S (dist (l.take i)), rfl, rfl, .inr ⟨_, rfl, ?_⟩⟩
      by_cases hcm : c ∈ dist (l.take i)
      · rw [show decide (c ∈ (S (dist (l.take i))).cps.toList) = true from decide_eq_true hcm]
        rw [if_pos hcm] at e
        refine ⟨S [c], 0, rfl, rfl, mulOk_S (n := 0) (by show 1 * 0 ≤ 100000; decide) (by decide), _, _, rfl, rfl, ?_, some (.str (S [c])), ?_, rfl⟩
        · rw [show Txt.mul (S [c]) 0 = S [] from mul_S [c] 0, len_S, len_S, sizeLine_eq]
          show _ + 0 ≤ _
          omega
        · rw [show Txt.mul (S [c]) 0 = S [] from mul_S [c] 0, SX.S_cat, List.append_nil, e]
          rfl
      · rw [show decide (c ∈ (S (dist (l.take i))).cps.toList) = false from decide_eq_false hcm]
        rw [if_neg hcm] at e
        refine ⟨S [c], 1, rfl, rfl, mulOk_S (n := 1) (by show 1 * 1 ≤ 100000; decide) (by decide), _, _, rfl, rfl, ?_, some (.str (S [c])), ?_, rfl⟩
        · rw [show Txt.mul (S [c]) 1 = S [c] from mul_S [c] 1, len_S, len_S, sizeLine_eq]
          show _ + 1 ≤ _
          omega
        · rw [show Txt.mul (S [c]) 1 = S [c] from mul_S [c] 1, SX.S_cat, e]
          rfl
    · rintro σ H2 ⟨y, rfl, rfl⟩
      rw [List.take_length]
      exact ⟨_, rfl, k⟩

/-! ### _law_renamed -/
def sp_law_renamed : Sp := fun vs H Q _ => ∃ (p c : Addr) (n : Nat) (l : List Nat), vs = [.ref p, .str (S l)] ∧ Pen H p c n ∧ n + 26 ≤ 1000000 ∧ Pat l ∧
  ∀ (g : Nat → Nat) H', (∀ a ∈ l, ∀ b ∈ l, g a = g b → a = b) → (∀ a ∈ l, g a ∈ capL) → But p H H' → Pen H' p c (n + 26) → Q (.str (S (l.map g))) H'
theorem ok_law_renamed (T : Txt K mg A) : FnOk P w K mg base CX0 4 A.f_law_renamed A.d_law_renamed ["pen", "pattern"] sp_law_renamed := by
  refine T.F_law_renamed.ok sc_law_renamed (fun vs H Q E h => ?_) (fun cdv A' outer s H vs Q E hr h => ?_)
  · obtain ⟨p, c, n, l, rfl, _⟩ := h
    rfl
  · obtain ⟨p, c, n, l, rfl, hp, hn, hpat, k⟩ := h
    refine ⟨_, (pss_cons (ps_set (i := 2) sc_law_renamed.nd rfl (by first | exact Or.inl rfl | exact Or.inr rfl) (pe_call (ok_law_drawn T) hr (by rfl) T.g_law_drawn T.F_law_drawn.kp T.b_law_drawn .nil pass0 (pa_cons (pv 0) (pa_cons pe_int pa_nil))))
  (pss_cons (ps_set (i := 3) sc_law_renamed.nd rfl (by first | exact Or.inl rfl | exact Or.inr rfl) (pe_call (ok_law_letters T) (hr.mono (by decide)) (by rfl) T.g_law_letters T.F_law_letters.kp T.b_law_letters .nil pass0 (pa_cons (pv 1) pa_nil)))
  (pss_one (ps_ret (pe_join pe_str (pe_lc (own := [("letter", 4)]) (g := gName 4) (tt := tYes) (by rfl) sc_law_renamed.nd (pi_str (pv 1)) (blkOk_by (own := [("letter", 4)]) (N := ["pen", "pattern", "order", "letters", "letter"]) (sc := defScope s_law_renamed) (by decide +kernel)) (fun _ _ _ _ _ => (pg_name (i := 4) sc_law_renamed.nd rfl (by first | exact Or.inl rfl | exact Or.inr rfl))) (fun _ _ _ _ _ => pts_nil) (fun _ _ _ _ _ => (pe_ix ix_str pe_str (pe_ix (ix_listK (K := K)) (pv 2) (pe_idx (pv 3) (pv 4)) (fun _ _ => rfl)) (fun _ _ => rfl))))))))), ?_⟩
    have h20 := hpat.hi
    refine ⟨_, rfl, p, c, n, 26, rfl, hp, by omega, fun o ks H1 D1 n1 e1 B1 P1 => ?_⟩
    refine ⟨_, rfl, l, rfl, by omega, ?_⟩
    refine ⟨⟨_, rfl⟩, _, rfl, S l, rfl, fun D hD => ?_⟩
    have hk : ∀ a ∈ l, ks[(dist l).idxOf a]? = some (ks[(dist l).idxOf a]?.getD 0) ∧ ks[(dist l).idxOf a]?.getD 0 < 26 := fun a ha => by
      have h26 := hpat.idx ha
      have e : ks[(dist l).idxOf a]? = some (ks[(dist l).idxOf a]'(by rw [D1.2.1]; exact h26)) := List.getElem?_eq_getElem _
      rw [e]
      exact ⟨rfl, D1.2.2 _ (List.getElem_mem _)⟩
    refine lc_map l (fun a => .str (S [capL[ks[(dist l).idxOf a]?.getD 0]?.getD 0])) walk_S hD (by omega) (fun _ _ => trivial) ?_ ?_
    · rintro i a x H2 H3 R ha s2 ⟨rfl, c', hc', rfl⟩ hR
      obtain rfl : a = c' := Option.some.inj (ha.symm.trans hc')
      have hm : a ∈ l := List.mem_of_getElem? ha
      obtain ⟨hk1, hk2⟩ := hk a hm
      refine ⟨rfl, _, rfl, _, rfl, ⟨_, rfl⟩, _, rfl, dist l, a, rfl, rfl, mem_dist.mpr hm, o, _, _, vN (ks[(dist l).idxOf a]?.getD 0), rfl, rfl, SqL.of (s2 _ _ e1), atI_nat (by rw [List.getElem?_map, hk1]; rfl),
        _, _, capL[ks[(dist l).idxOf a]?.getD 0]?.getD 0, rfl, rfl, by decide +kernel, ?_, hR H3 (Same.refl H3)⟩
      rw [capS]
      exact atI_nat (by rw [List.getElem?_eq_getElem (show _ < capL.length from hk2)]; rfl)
    · intro H2 s2 g2
      rw [map_sg] at g2
      refine ⟨S [], D, _, rfl, rfl, .inl (SqL.of g2), join_ok1 _ (by omega), ?_⟩
      rw [join0, flat1]
      refine k _ H2 (fun a ha b hb e => ?_) (fun a ha => cap_getD_mem (hk a ha).2) (B1.trans (But.of_same s2)) (P1.same s2)
      have e2 := cap_inj (hk a ha).2 (hk b hb).2 e
      have e3 : ks[(dist l).idxOf a]? = ks[(dist l).idxOf b]? := by rw [(hk a ha).1, (hk b hb).1, e2]
      refine idx_inj (mem_dist.mpr ha) (mem_dist.mpr hb) (nd_ix D1.1 (hk a ha).1 ?_)
      rw [← e3]
      exact (hk a ha).1

/-! ### the law -/
theorem abcS : (("ABCDEFG" : String) : Str) = S (capL.take 7) := by decide +kernel
theorem sz_S {l : List Nat} (h : l.length ≤ 100000) : (S l).length ≤ sizeLine := by rw [len_S, sizeLine_eq]; omega
theorem ok_law (T : Txt K mg A) : FnOk P w K mg base CX0 5 A.f_law A.d_law ["script"] (spTop K) := by
  refine T.F_law.ok sc_law (fun vs H Q E h => ?_) (fun cdv A' outer s H vs Q E hr h => ?_)
  · obtain ⟨a, ns, rfl, _⟩ := h
    rfl
  · obtain ⟨a, ns, rfl, hS, hl, k⟩ := h
    refine ⟨_, (pss_cons (ps_set (i := 1) sc_law.nd rfl (by first | exact Or.inl rfl | exact Or.inr rfl) (pe_call (ok_law_open T) (hr.mono (by decide)) (by rfl) T.g_law_open T.F_law_open.kp T.b_law_open .nil pass0 (pa_cons (pv 0) pa_nil)))
  (pss_cons (ps_for PassesOwn.never rfl (pi_range1 (by rfl) T.range (pa_cons pe_int pa_nil)) (pg_name (i := 2) sc_law.nd rfl (by first | exact Or.inl rfl | exact Or.inr rfl)) (pss_cons (ps_set (i := 3) sc_law.nd rfl (by first | exact Or.inl rfl | exact Or.inr rfl) (pe_call (ok_law_pattern T) hr (by rfl) T.g_law_pattern T.F_law_pattern.kp T.b_law_pattern .nil pass0 (pa_cons (pe_call (ok_law_anew T) (hr.mono (by decide)) (by rfl) T.g_law_anew T.F_law_anew.kp T.b_law_anew .nil pass0 (pa_cons (pv 1) pa_nil)) (pa_cons pe_int (pa_cons pe_int pa_nil)))))
  (pss_cons (ps_set (i := 4) sc_law.nd rfl (by first | exact Or.inl rfl | exact Or.inr rfl) (pe_call (ok_law_letters T) (hr.mono (by decide)) (by rfl) T.g_law_letters T.F_law_letters.kp T.b_law_letters .nil pass0 (pa_cons (pv 3) pa_nil)))
  (pss_cons (ps_if (pt_cmpR op_ne (pe_call (ok_letters_of T) hr (by rfl) T.g_letters_of T.F_letters_of.kp T.b_letters_of .nil pass0 (pa_cons (pv 3) pa_nil)) (pv 4) (nomark _)) (pss_one (ps_ret pe_bl)) pss_nil)
  (pss_cons (ps_set (i := 5) sc_law.nd rfl (by first | exact Or.inl rfl | exact Or.inr rfl) (pe_join pe_str (pe_lc (own := [("letter", 8)]) (g := gName 8) (tt := tYes) (by rfl) sc_law.nd (pi_str (pv 3)) (blkOk_by (own := [("letter", 8)]) (N := ["script", "pen", "turn", "pattern", "letters", "due", "other", "same", "letter"]) (sc := defScope s_law) (by decide +kernel)) (fun _ _ _ _ _ => (pg_name (i := 8) sc_law.nd rfl (by first | exact Or.inl rfl | exact Or.inr rfl))) (fun _ _ _ _ _ => pts_nil) (fun _ _ _ _ _ => (pe_ix ix_str pe_str (pe_idx (pv 4) (pv 8)) (fun _ _ => rfl))))))
  (pss_cons (ps_set (i := 6) sc_law.nd rfl (by first | exact Or.inl rfl | exact Or.inr rfl) (pe_call (ok_law_renamed T) hr (by rfl) T.g_law_renamed T.F_law_renamed.kp T.b_law_renamed .nil pass0 (pa_cons (pv 1) (pa_cons (pv 3) pa_nil))))
  (pss_cons (ps_if (PW.pt (pw_or (pt_cmpR op_ne (pe_call (ok_normal_form T) hr (by rfl) T.g_normal_form T.F_normal_form.kp T.b_normal_form .nil pass0 (pa_cons (pv 3) pa_nil)) (pv 5) (nomark _)) (pw_or (pt_cmpR op_ne (pe_call (ok_normal_form T) hr (by rfl) T.g_normal_form T.F_normal_form.kp T.b_normal_form .nil pass0 (pa_cons (pv 5) pa_nil)) (pv 5) (nomark _)) (pw_or1 (pt_cmpR op_ne (pe_call (ok_normal_form T) hr (by rfl) T.g_normal_form T.F_normal_form.kp T.b_normal_form .nil pass0 (pa_cons (pv 6) pa_nil)) (pv 5) (nomark _)))))) (pss_one (ps_ret pe_bl)) pss_nil)
  (pss_cons (ps_if (PW.pt (pw_or (pt_cmpR op_ne (pe_call (ok_letters_of T) hr (by rfl) T.g_letters_of T.F_letters_of.kp T.b_letters_of .nil pass0 (pa_cons (pv 5) pa_nil)) (pe_slice sl_str pe_str po_none (po_some (pe_callB call_len_str (by rfl) T.len PySem.boot_len (pa_cons (pv 4) pa_nil)))) (nomark _)) (pw_or1 (pt_cmpR op_ne (pe_callB call_len_str (by rfl) T.len PySem.boot_len (pa_cons (pe_call (ok_letters_of T) hr (by rfl) T.g_letters_of T.F_letters_of.kp T.b_letters_of .nil pass0 (pa_cons (pv 6) pa_nil)) pa_nil)) (pe_callB call_len_str (by rfl) T.len PySem.boot_len (pa_cons (pv 4) pa_nil)) (nomark _))))) (pss_one (ps_ret pe_bl)) pss_nil)
  (pss_cons (ps_set (i := 7) sc_law.nd rfl (by first | exact Or.inl rfl | exact Or.inr rfl) (pe_replEnds (il := 4) T.nb (pv 3) rfl (by first | exact Or.inl rfl | exact Or.inr (Or.inl rfl))))
  (pss_one (ps_if (pt_cmpR op_ne (pe_cmpR op_eq (pe_call (ok_normal_form T) hr (by rfl) T.g_normal_form T.F_normal_form.kp T.b_normal_form .nil pass0 (pa_cons (pv 7) pa_nil)) (pv 5) (nomark _)) (pe_cmpR op_eq (pe_callB call_len_str (by rfl) T.len PySem.boot_len (pa_cons (pv 4) pa_nil)) pe_int (nomark _)) (nomark _)) (pss_one (ps_ret pe_bl)) pss_nil)))))))))))
  (pss_one (ps_ret pe_bl)))), ?_⟩
    refine ⟨_, rfl, a, ns, rfl, hS, hl, fun p c H1 S1 np nc P1 => ?_⟩
    refine ⟨8, rfl, by decide, by decide, for_it walk_rangeN (fun i σ H' => ∃ y2 y3 y4 y5 y6 y7 y8, σ = [some (.ref a), some (.ref p), y2, y3, y4, y5, y6, y7, y8] ∧ Pen H' p c (i * 200))
      ⟨none, none, none, none, none, none, none, rfl, P1⟩ (fun _ _ _ _ _ => trivial) ?_ ?_⟩
    · rintro i x σ H2 H3 hi ⟨y2, y3, y4, y5, y6, y7, y8, rfl, P2⟩ ⟨rfl, rfl⟩
      replace hi : i < 8 := hi
      -- pattern
      refine ⟨_, rfl, p, c, i * 200, rfl, P2, fun H4 B4 P4 => ?_⟩
      refine ⟨p, c, i * 200, 20, 7, rfl, P4, by omega, by decide, by decide, by decide, by decide, fun l H5 l1 l2 l3 l4 B5 P5 => ?_⟩
      have hp : Pat l := ⟨l1, l2, l3, l4⟩
      have hdl := dist_len l
      -- letters
      refine ⟨_, rfl, l, rfl, by omega, ?_⟩
      refine ⟨_, rfl, l, rfl, hp, _, rfl, rfl, _, rfl, iteNS rfl ?_⟩
      -- due
      refine ⟨⟨_, rfl⟩, _, rfl, S l, rfl, fun D hD => ?_⟩
      refine lc_map l (fun a => .str (S [capL[(dist l).idxOf a]?.getD 0])) walk_S hD (by omega) (fun _ _ => trivial) ?_ ?_
      · rintro j b x H6 H7 R hb s6 ⟨rfl, c', hc', rfl⟩ hR
        obtain rfl : b = c' := Option.some.inj (hb.symm.trans hc')
        have hm : b ∈ l := List.mem_of_getElem? hb
        have hlt := idx_dist_lt hm
        refine ⟨rfl, _, rfl, ⟨_, rfl⟩, _, rfl, dist l, b, rfl, rfl, mem_dist.mpr hm, _, _, capL[(dist l).idxOf b]?.getD 0, rfl, rfl, by decide +kernel, ?_, hR H7 (Same.refl H7)⟩
        rw [abcS]
        refine atI_nat ?_
        show (capL.take 7)[(dist l).idxOf b]? = _
        rw [List.getElem?_take, if_pos (by omega), List.getElem?_eq_getElem (show _ < capL.length by show _ < 26; omega)]
        rfl
      · intro H6 s6 g6
        rw [map_sg] at g6
        refine ⟨S [], D, _, rfl, rfl, .inl (SqL.of g6), join_ok1 _ (by omega), ?_⟩
        rw [join0, flat1]
        change tSeq _ _ _ (List.set _ 5 (some (V.str (S (nf l))))) H6
        -- other
        refine ⟨_, rfl, _, rfl, p, c, i * 200 + 28 + 20, l, rfl, P5.same s6, by omega, hp, fun g H7 hinj hcap B7 P7 => ?_⟩
        -- normal forms
        refine ⟨_, rfl, l, rfl, hp, fun H8 S8 => ⟨_, rfl, rfl, _, rfl, iteNS rfl ?_⟩⟩
        refine ⟨_, rfl, nf l, rfl, hp.nf, fun H9 S9 => ⟨_, rfl, rfl, _, rfl, iteNS (by rw [nf_nf hp]) ?_⟩⟩
        refine ⟨_, rfl, l.map g, rfl, hp.map hinj hcap, fun H10 S10 => ⟨_, rfl, rfl, _, rfl, iteNS (by rw [nf_map hinj]) ?_⟩⟩
        -- letters of due and other
        have h7 := hp.few
        refine ⟨_, rfl, nf l, rfl, hp.nf, _, rfl, S (dist l), rfl, sz_S (by omega), _, rfl, _, rfl, by decide +kernel, rfl, _, rfl, iteNS ?_ ?_⟩
        · rw [abcS, len_S, cutS_S, cutL_pre, List.take_take, Nat.min_eq_left h7, dist_nf hp]
        refine ⟨_, rfl, l.map g, rfl, hp.map hinj hcap, S (dist (l.map g)), rfl, sz_S ?_, _, rfl, S (dist l), rfl, sz_S (by omega), rfl, _, rfl, iteNS ?_ ?_⟩
        · rw [dist_map hinj, List.length_map]; omega
        · rw [len_S, len_S, dist_map hinj, List.length_map]
        -- same
        have hd0 : 0 < (dist l).length := by
          have hl0 : 0 < l.length := l1
          exact List.length_pos_of_mem (mem_dist.mpr (List.getElem_mem hl0))
        have e0 : (dist l)[0]? = some (dist l)[0] := List.getElem?_eq_getElem hd0
        have e1 : (dist l)[(dist l).length - 1]? = some ((dist l)[(dist l).length - 1]'(by omega)) := List.getElem?_eq_getElem _
        have m0 : (dist l)[0] ∈ l := mem_dist.mp (List.getElem_mem _)
        have m1 : ((dist l)[(dist l).length - 1]'(by omega)) ∈ l := mem_dist.mp (List.getElem_mem _)
        refine ⟨_, rfl, l, dist l, (dist l)[(dist l).length - 1]'(by omega), (dist l)[0], rfl, rfl, ?_, atI_nat (j := 0) e0, by omega, by omega, ?_⟩
        · unfold atI ixN
          rw [if_neg (by decide), if_pos (by omega)]
          show (dist l)[(-1 + ((dist l).length : Int)).toNat]? = _
          rw [show (-1 + ((dist l).length : Int)).toNat = (dist l).length - 1 by omega]
          exact e1
        generalize (dist l)[0] = d0 at e0 m0
        generalize hd1 : ((dist l)[(dist l).length - 1]'(by omega)) = d1 at e1 m1
        rw [replace1]
        have hp2 : Pat (l.map fun c => if c = d1 then d0 else c) := ⟨by rw [List.length_map]; exact l1, by rw [List.length_map]; exact l2, fun c hc => by
          obtain ⟨b, hb, rfl⟩ := List.mem_map.mp hc
          by_cases q : b = d1
          · rw [if_pos q]; exact l3 _ m0
          · rw [if_neg q]; exact l3 _ hb, by
          refine Nat.le_trans (dist_few (m := dist l) fun c hc => ?_) h7
          obtain ⟨b, hb, rfl⟩ := List.mem_map.mp hc
          by_cases q : b = d1
          · rw [if_pos q]; exact mem_dist.mpr m0
          · rw [if_neg q]; exact mem_dist.mpr hb⟩
        refine ⟨_, rfl, _, rfl, hp2, fun H11 S11 => ⟨_, rfl, rfl, _, rfl, S (dist l), rfl, sz_S (by omega), rfl, rfl, _, rfl, iteNS ?_ ?_⟩⟩
        · have h1 : (V.str (S (nf (l.map fun c => if c = d1 then d0 else c))) = V.str (S (nf l))) ↔ d1 = d0 := by
            rw [← nf_merge hp m1 m0]
            exact ⟨fun e => SX.S_inj (V.str.inj e), fun e => by rw [e]⟩
          have h2 : (V.int ((S (dist l)).length : Nat) = V.int 1) ↔ d1 = d0 := by
            rw [len_S]
            constructor
            · intro e
              have e' : ((dist l).length : Int) = 1 := V.int.inj e
              have e2 : (dist l).length - 1 = 0 := by omega
              rw [e2, e0] at e1
              exact (Option.some.inj e1).symm
            · intro e
              rw [e] at e1
              have := nd_ix (dist_nodup l) e0 e1
              have e3 : (dist l).length = 1 := by omega
              rw [e3]
              rfl
          exact congrArg V.bl (decide_eq_decide.mpr (h1.trans h2.symm))
        · exact ⟨_, _, _, _, _, _, _, rfl, ((((P7.same S8).same S9).same S10).same S11).mono (by omega)⟩
    · rintro σ H2 ⟨y2, y3, y4, y5, y6, y7, y8, rfl, P2⟩
      exact k H2

end

theorem all_mk {l : PySem.W.OpenLaw} {w : World} {K : PySem.W.Frag} {h : Heap} {mg : Str → Option Value} {fa : Addr} (X : K.In h) (G : h.Ns mainGlobals mg) (hfa : mg "law" = some (.ref fa))
    {f0 : Addr} {od0 an0 : Option Addr} {sl0 : Array (Option Value)} {oc0 kV0 dc0 pm0 cd0 ct0 : Value}
    {f1 : Addr} {od1 an1 : Option Addr} {sl1 : Array (Option Value)} {oc1 kV1 dc1 pm1 cd1 ct1 : Value}
    {f2 : Addr} {od2 an2 : Option Addr} {sl2 : Array (Option Value)} {oc2 kV2 dc2 pm2 cd2 ct2 : Value}
    {f3 : Addr} {od3 an3 : Option Addr} {sl3 : Array (Option Value)} {oc3 kV3 dc3 pm3 cd3 ct3 : Value}
    {f4 : Addr} {od4 an4 : Option Addr} {sl4 : Array (Option Value)} {oc4 kV4 dc4 pm4 cd4 ct4 : Value}
    {f5 : Addr} {od5 an5 : Option Addr} {sl5 : Array (Option Value)} {oc5 kV5 dc5 pm5 cd5 ct5 : Value}
    {f6 : Addr} {od6 an6 : Option Addr} {sl6 : Array (Option Value)} {oc6 kV6 dc6 pm6 cd6 ct6 : Value}
    {f7 : Addr} {od7 an7 : Option Addr} {sl7 : Array (Option Value)} {oc7 kV7 dc7 pm7 cd7 ct7 : Value}
    {f8 : Addr} {od8 an8 : Option Addr} {sl8 : Array (Option Value)} {oc8 kV8 dc8 pm8 cd8 ct8 : Value}
    {f9 : Addr} {od9 an9 : Option Addr} {sl9 : Array (Option Value)} {oc9 kV9 dc9 pm9 cd9 ct9 : Value}
    {f10 : Addr} {od10 an10 : Option Addr} {sl10 : Array (Option Value)} {oc10 kV10 dc10 pm10 cd10 ct10 : Value}
    {f11 : Addr} {od11 an11 : Option Addr} {sl11 : Array (Option Value)} {oc11 kV11 dc11 pm11 cd11 ct11 : Value}
    {f12 : Addr} {od12 an12 : Option Addr} {sl12 : Array (Option Value)} {oc12 kV12 dc12 pm12 cd12 ct12 : Value}
    {f13 : Addr} {od13 an13 : Option Addr} {sl13 : Array (Option Value)} {oc13 kV13 dc13 pm13 cd13 ct13 : Value}
    {f14 : Addr} {od14 an14 : Option Addr} {sl14 : Array (Option Value)} {oc14 kV14 dc14 pm14 cd14 ct14 : Value}
    {f15 : Addr} {od15 an15 : Option Addr} {sl15 : Array (Option Value)} {oc15 kV15 dc15 pm15 cd15 ct15 : Value}
    {f16 : Addr} {od16 an16 : Option Addr} {sl16 : Array (Option Value)} {oc16 kV16 dc16 pm16 cd16 ct16 : Value}
    {t_CAPITALS : Tok}
    {t_LONGEST_PATTERN : Tok}
    {t_MOST_LETTERS : Tok}
    (a0 : PySem.W.nsIn K mainGlobals "distinct" = some (some (.ref f0)))
    (l0 : K.lookup f0 = some ⟨oc0, od0, .func (PySem.W.fnOf "distinct" "distinct" (defArgs s_distinct) (defBody s_distinct) (defScope s_distinct) .none kV0 dc0 pm0 an0 cd0 ct0), sl0⟩)
    (c0 : PySem.W.codeIn K cd0 "distinct" = true)
    (k0 : PySem.W.keepIn K (.ref f0) = true)
    (a1 : PySem.W.nsIn K mainGlobals "has_only" = some (some (.ref f1)))
    (l1 : K.lookup f1 = some ⟨oc1, od1, .func (PySem.W.fnOf "has_only" "has_only" (defArgs s_has_only) (defBody s_has_only) (defScope s_has_only) .none kV1 dc1 pm1 an1 cd1 ct1), sl1⟩)
    (c1 : PySem.W.codeIn K cd1 "has_only" = true)
    (k1 : PySem.W.keepIn K (.ref f1) = true)
    (a2 : PySem.W.nsIn K mainGlobals "is_pattern" = some (some (.ref f2)))
    (l2 : K.lookup f2 = some ⟨oc2, od2, .func (PySem.W.fnOf "is_pattern" "is_pattern" (defArgs s_is_pattern) (defBody s_is_pattern) (defScope s_is_pattern) .none kV2 dc2 pm2 an2 cd2 ct2), sl2⟩)
    (c2 : PySem.W.codeIn K cd2 "is_pattern" = true)
    (k2 : PySem.W.keepIn K (.ref f2) = true)
    (a3 : PySem.W.nsIn K mainGlobals "need_pattern" = some (some (.ref f3)))
    (l3 : K.lookup f3 = some ⟨oc3, od3, .func (PySem.W.fnOf "need_pattern" "need_pattern" (defArgs s_need_pattern) (defBody s_need_pattern) (defScope s_need_pattern) .none kV3 dc3 pm3 an3 cd3 ct3), sl3⟩)
    (c3 : PySem.W.codeIn K cd3 "need_pattern" = true)
    (k3 : PySem.W.keepIn K (.ref f3) = true)
    (a4 : PySem.W.nsIn K mainGlobals "letters_of" = some (some (.ref f4)))
    (l4 : K.lookup f4 = some ⟨oc4, od4, .func (PySem.W.fnOf "letters_of" "letters_of" (defArgs s_letters_of) (defBody s_letters_of) (defScope s_letters_of) .none kV4 dc4 pm4 an4 cd4 ct4), sl4⟩)
    (c4 : PySem.W.codeIn K cd4 "letters_of" = true)
    (k4 : PySem.W.keepIn K (.ref f4) = true)
    (a5 : PySem.W.nsIn K mainGlobals "in_normal_form" = some (some (.ref f5)))
    (l5 : K.lookup f5 = some ⟨oc5, od5, .func (PySem.W.fnOf "in_normal_form" "in_normal_form" (defArgs s_in_normal_form) (defBody s_in_normal_form) (defScope s_in_normal_form) .none kV5 dc5 pm5 an5 cd5 ct5), sl5⟩)
    (c5 : PySem.W.codeIn K cd5 "in_normal_form" = true)
    (k5 : PySem.W.keepIn K (.ref f5) = true)
    (a6 : PySem.W.nsIn K mainGlobals "normal_form" = some (some (.ref f6)))
    (l6 : K.lookup f6 = some ⟨oc6, od6, .func (PySem.W.fnOf "normal_form" "normal_form" (defArgs s_normal_form) (defBody s_normal_form) (defScope s_normal_form) .none kV6 dc6 pm6 an6 cd6 ct6), sl6⟩)
    (c6 : PySem.W.codeIn K cd6 "normal_form" = true)
    (k6 : PySem.W.keepIn K (.ref f6) = true)
    (a7 : PySem.W.nsIn K mainGlobals "_law_open" = some (some (.ref f7)))
    (l7 : K.lookup f7 = some ⟨oc7, od7, .func (PySem.W.fnOf "_law_open" "_law_open" (defArgs s_law_open) (defBody s_law_open) (defScope s_law_open) .none kV7 dc7 pm7 an7 cd7 ct7), sl7⟩)
    (c7 : PySem.W.codeIn K cd7 "_law_open" = true)
    (k7 : PySem.W.keepIn K (.ref f7) = true)
    (a8 : PySem.W.nsIn K mainGlobals "_law_anew" = some (some (.ref f8)))
    (l8 : K.lookup f8 = some ⟨oc8, od8, .func (PySem.W.fnOf "_law_anew" "_law_anew" (defArgs s_law_anew) (defBody s_law_anew) (defScope s_law_anew) .none kV8 dc8 pm8 an8 cd8 ct8), sl8⟩)
    (c8 : PySem.W.codeIn K cd8 "_law_anew" = true)
    (k8 : PySem.W.keepIn K (.ref f8) = true)
    (a9 : PySem.W.nsIn K mainGlobals "_law_spread" = some (some (.ref f9)))
    (l9 : K.lookup f9 = some ⟨oc9, od9, .func (PySem.W.fnOf "_law_spread" "_law_spread" (defArgs s_law_spread) (defBody s_law_spread) (defScope s_law_spread) .none kV9 dc9 pm9 an9 cd9 ct9), sl9⟩)
    (c9 : PySem.W.codeIn K cd9 "_law_spread" = true)
    (k9 : PySem.W.keepIn K (.ref f9) = true)
    (a10 : PySem.W.nsIn K mainGlobals "_law_take" = some (some (.ref f10)))
    (l10 : K.lookup f10 = some ⟨oc10, od10, .func (PySem.W.fnOf "_law_take" "_law_take" (defArgs s_law_take) (defBody s_law_take) (defScope s_law_take) .none kV10 dc10 pm10 an10 cd10 ct10), sl10⟩)
    (c10 : PySem.W.codeIn K cd10 "_law_take" = true)
    (k10 : PySem.W.keepIn K (.ref f10) = true)
    (a11 : PySem.W.nsIn K mainGlobals "_law_one" = some (some (.ref f11)))
    (l11 : K.lookup f11 = some ⟨oc11, od11, .func (PySem.W.fnOf "_law_one" "_law_one" (defArgs s_law_one) (defBody s_law_one) (defScope s_law_one) .none kV11 dc11 pm11 an11 cd11 ct11), sl11⟩)
    (c11 : PySem.W.codeIn K cd11 "_law_one" = true)
    (k11 : PySem.W.keepIn K (.ref f11) = true)
    (a12 : PySem.W.nsIn K mainGlobals "_law_drawn" = some (some (.ref f12)))
    (l12 : K.lookup f12 = some ⟨oc12, od12, .func (PySem.W.fnOf "_law_drawn" "_law_drawn" (defArgs s_law_drawn) (defBody s_law_drawn) (defScope s_law_drawn) .none kV12 dc12 pm12 an12 cd12 ct12), sl12⟩)
    (c12 : PySem.W.codeIn K cd12 "_law_drawn" = true)
    (k12 : PySem.W.keepIn K (.ref f12) = true)
    (a13 : PySem.W.nsIn K mainGlobals "_law_pattern" = some (some (.ref f13)))
    (l13 : K.lookup f13 = some ⟨oc13, od13, .func (PySem.W.fnOf "_law_pattern" "_law_pattern" (defArgs s_law_pattern) (defBody s_law_pattern) (defScope s_law_pattern) .none kV13 dc13 pm13 an13 cd13 ct13), sl13⟩)
    (c13 : PySem.W.codeIn K cd13 "_law_pattern" = true)
    (k13 : PySem.W.keepIn K (.ref f13) = true)
    (a14 : PySem.W.nsIn K mainGlobals "_law_letters" = some (some (.ref f14)))
    (l14 : K.lookup f14 = some ⟨oc14, od14, .func (PySem.W.fnOf "_law_letters" "_law_letters" (defArgs s_law_letters) (defBody s_law_letters) (defScope s_law_letters) .none kV14 dc14 pm14 an14 cd14 ct14), sl14⟩)
    (c14 : PySem.W.codeIn K cd14 "_law_letters" = true)
    (k14 : PySem.W.keepIn K (.ref f14) = true)
    (a15 : PySem.W.nsIn K mainGlobals "_law_renamed" = some (some (.ref f15)))
    (l15 : K.lookup f15 = some ⟨oc15, od15, .func (PySem.W.fnOf "_law_renamed" "_law_renamed" (defArgs s_law_renamed) (defBody s_law_renamed) (defScope s_law_renamed) .none kV15 dc15 pm15 an15 cd15 ct15), sl15⟩)
    (c15 : PySem.W.codeIn K cd15 "_law_renamed" = true)
    (k15 : PySem.W.keepIn K (.ref f15) = true)
    (a16 : PySem.W.nsIn K mainGlobals "law" = some (some (.ref f16)))
    (l16 : K.lookup f16 = some ⟨oc16, od16, .func (PySem.W.fnOf "law" "law" (defArgs s_law) (defBody s_law) (defScope s_law) .none kV16 dc16 pm16 an16 cd16 ct16), sl16⟩)
    (c16 : PySem.W.codeIn K cd16 "law" = true)
    (k16 : PySem.W.keepIn K (.ref f16) = true)
    (z_CAPITALS : PySem.W.nsIn K mainGlobals "CAPITALS" = some (some (.str "ABCDEFGHIJKLMNOPQRSTUVWXYZ" t_CAPITALS)))
    (z_LONGEST_PATTERN : PySem.W.nsIn K mainGlobals "LONGEST_PATTERN" = some (some (.int 20 t_LONGEST_PATTERN)))
    (z_MOST_LETTERS : PySem.W.nsIn K mainGlobals "MOST_LETTERS" = some (some (.int 7 t_MOST_LETTERS)))
    (z_enumerate : PySem.W.nsIn K mainGlobals "enumerate" = some none)
    (z_int : PySem.W.nsIn K mainGlobals "int" = some none)
    (z_isinstance : PySem.W.nsIn K mainGlobals "isinstance" = some none)
    (z_len : PySem.W.nsIn K mainGlobals "len" = some none)
    (z_list : PySem.W.nsIn K mainGlobals "list" = some none)
    (z_range : PySem.W.nsIn K mainGlobals "range" = some none)
    (z_str : PySem.W.nsIn K mainGlobals "str" = some none)
    (y_nb : PySem.W.nsIn K cStatics sharingNotToldKey = some none)
    : ∃ fd : FuncData, (∀ (s : Shared) (v : Value), BindsTo s fd ⟨[v], []⟩ [("script", v)]) ∧ ∀ base : Heap, K.In base → base.Ns mainGlobals mg → FnOk l.prog w K mg base CX0 5 fa fd ["script"] (spTop K) := by
  have e := hfa.symm.trans (PySem.W.mg_of X G a16)
  cases e
  have F0 := fun_mk (st := s_distinct) l0 c0 k0
  have b0 := F0.binds (ps := ["text"]) fun _ _ _ _ _ _ us hl => match us, hl with | [_], _ => rfl
  have F1 := fun_mk (st := s_has_only) l1 c1 k1
  have b1 := F1.binds (ps := ["text", "letters"]) fun _ _ _ _ _ _ us hl => match us, hl with | [_, _], _ => rfl
  have F2 := fun_mk (st := s_is_pattern) l2 c2 k2
  have b2 := F2.binds (ps := ["value"]) fun _ _ _ _ _ _ us hl => match us, hl with | [_], _ => rfl
  have F3 := fun_mk (st := s_need_pattern) l3 c3 k3
  have b3 := F3.binds (ps := ["value"]) fun _ _ _ _ _ _ us hl => match us, hl with | [_], _ => rfl
  have F4 := fun_mk (st := s_letters_of) l4 c4 k4
  have b4 := F4.binds (ps := ["pattern"]) fun _ _ _ _ _ _ us hl => match us, hl with | [_], _ => rfl
  have F5 := fun_mk (st := s_in_normal_form) l5 c5 k5
  have b5 := F5.binds (ps := ["pattern"]) fun _ _ _ _ _ _ us hl => match us, hl with | [_], _ => rfl
  have F6 := fun_mk (st := s_normal_form) l6 c6 k6
  have b6 := F6.binds (ps := ["pattern"]) fun _ _ _ _ _ _ us hl => match us, hl with | [_], _ => rfl
  have F7 := fun_mk (st := s_law_open) l7 c7 k7
  have b7 := F7.binds (ps := ["script"]) fun _ _ _ _ _ _ us hl => match us, hl with | [_], _ => rfl
  have F8 := fun_mk (st := s_law_anew) l8 c8 k8
  have b8 := F8.binds (ps := ["pen"]) fun _ _ _ _ _ _ us hl => match us, hl with | [_], _ => rfl
  have F9 := fun_mk (st := s_law_spread) l9 c9 k9
  have b9 := F9.binds (ps := ["cell", "at"]) fun _ _ _ _ _ _ us hl => match us, hl with | [_, _], _ => rfl
  have F10 := fun_mk (st := s_law_take) l10 c10 k10
  have b10 := F10.binds (ps := ["pen", "many"]) fun _ _ _ _ _ _ us hl => match us, hl with | [_, _], _ => rfl
  have F11 := fun_mk (st := s_law_one) l11 c11 k11
  have b11 := F11.binds (ps := ["pen", "some"]) fun _ _ _ _ _ _ us hl => match us, hl with | [_, _], _ => rfl
  have F12 := fun_mk (st := s_law_drawn) l12 c12 k12
  have b12 := F12.binds (ps := ["pen", "many"]) fun _ _ _ _ _ _ us hl => match us, hl with | [_, _], _ => rfl
  have F13 := fun_mk (st := s_law_pattern) l13 c13 k13
  have b13 := F13.binds (ps := ["pen", "most", "many"]) fun _ _ _ _ _ _ us hl => match us, hl with | [_, _, _], _ => rfl
  have F14 := fun_mk (st := s_law_letters) l14 c14 k14
  have b14 := F14.binds (ps := ["pattern"]) fun _ _ _ _ _ _ us hl => match us, hl with | [_], _ => rfl
  have F15 := fun_mk (st := s_law_renamed) l15 c15 k15
  have b15 := F15.binds (ps := ["pen", "pattern"]) fun _ _ _ _ _ _ us hl => match us, hl with | [_, _], _ => rfl
  have F16 := fun_mk (st := s_law) l16 c16 k16
  have b16 := F16.binds (ps := ["script"]) fun _ _ _ _ _ _ us hl => match us, hl with | [_], _ => rfl
  have T : Txt K mg { f_distinct := f0, d_distinct := _, f_has_only := f1, d_has_only := _, f_is_pattern := f2, d_is_pattern := _, f_need_pattern := f3, d_need_pattern := _, f_letters_of := f4, d_letters_of := _, f_in_normal_form := f5, d_in_normal_form := _, f_normal_form := f6, d_normal_form := _, f_law_open := f7, d_law_open := _, f_law_anew := f8, d_law_anew := _, f_law_spread := f9, d_law_spread := _, f_law_take := f10, d_law_take := _, f_law_one := f11, d_law_one := _, f_law_drawn := f12, d_law_drawn := _, f_law_pattern := f13, d_law_pattern := _, f_law_letters := f14, d_law_letters := _, f_law_renamed := f15, d_law_renamed := _, f_law := fa, d_law := _, t_CAPITALS := t_CAPITALS, t_LONGEST_PATTERN := t_LONGEST_PATTERN, t_MOST_LETTERS := t_MOST_LETTERS } := { F_distinct := F0, g_distinct := PySem.W.mg_of X G a0, b_distinct := b0, F_has_only := F1, g_has_only := PySem.W.mg_of X G a1, b_has_only := b1, F_is_pattern := F2, g_is_pattern := PySem.W.mg_of X G a2, b_is_pattern := b2, F_need_pattern := F3, g_need_pattern := PySem.W.mg_of X G a3, b_need_pattern := b3, F_letters_of := F4, g_letters_of := PySem.W.mg_of X G a4, b_letters_of := b4, F_in_normal_form := F5, g_in_normal_form := PySem.W.mg_of X G a5, b_in_normal_form := b5, F_normal_form := F6, g_normal_form := PySem.W.mg_of X G a6, b_normal_form := b6, F_law_open := F7, g_law_open := PySem.W.mg_of X G a7, b_law_open := b7, F_law_anew := F8, g_law_anew := PySem.W.mg_of X G a8, b_law_anew := b8, F_law_spread := F9, g_law_spread := PySem.W.mg_of X G a9, b_law_spread := b9, F_law_take := F10, g_law_take := PySem.W.mg_of X G a10, b_law_take := b10, F_law_one := F11, g_law_one := PySem.W.mg_of X G a11, b_law_one := b11, F_law_drawn := F12, g_law_drawn := PySem.W.mg_of X G a12, b_law_drawn := b12, F_law_pattern := F13, g_law_pattern := PySem.W.mg_of X G a13, b_law_pattern := b13, F_law_letters := F14, g_law_letters := PySem.W.mg_of X G a14, b_law_letters := b14, F_law_renamed := F15, g_law_renamed := PySem.W.mg_of X G a15, b_law_renamed := b15, F_law := F16, g_law := PySem.W.mg_of X G a16, b_law := b16, g_CAPITALS := PySem.W.mg_of X G z_CAPITALS, g_LONGEST_PATTERN := PySem.W.mg_of X G z_LONGEST_PATTERN, g_MOST_LETTERS := PySem.W.mg_of X G z_MOST_LETTERS, enumerate := PySem.W.mg_none_of X G z_enumerate, int := PySem.W.mg_none_of X G z_int, isinstance := PySem.W.mg_none_of X G z_isinstance, len := PySem.W.mg_none_of X G z_len, list := PySem.W.mg_none_of X G z_list, range := PySem.W.mg_none_of X G z_range, str := PySem.W.mg_none_of X G z_str, nb := y_nb }
  exact ⟨_, fun s v => .of_eq rfl, fun base _ _ => ok_law T⟩
end Lw
open PySem PySem.W PyProof.Rows
set_option maxRecDepth 100000 in
set_option maxHeartbeats 0 in
theorem PySem.Challenge.cw_surepatterns_k02_letters_and_normal_form_holds : PySem.Challenge.rw_surepatterns_k02_letters_and_normal_form.Holds := by
  w_on; o_law; k_head; (case hw => w_witness2)
  k_fill
  refine L2.walk_of (l := PySem.Challenge.rw_surepatterns_k02_letters_and_normal_form) (n := 63) (k := 5) (x := "script") (CX := fun _ => L2.CX0) (sp := fun w => Lw.spTop _) rfl (by decide) rfl ⟨rfl, by decide, by decide⟩ (fun w h Y => PySem.W.kIn_of Y) ?F (fun _ _ a ns hl _ hS => ⟨a, ns, rfl, hS, hl, fun _ => rfl⟩) (fun _ _ _ _ _ h => h)
  case F =>
    intro w mg fa h KX G hmg
    refine' Lw.all_mk KX G hmg ?a0 ?l0 ?c0 ?k0 ?a1 ?l1 ?c1 ?k1 ?a2 ?l2 ?c2 ?k2 ?a3 ?l3 ?c3 ?k3 ?a4 ?l4 ?c4 ?k4 ?a5 ?l5 ?c5 ?k5 ?a6 ?l6 ?c6 ?k6 ?a7 ?l7 ?c7 ?k7 ?a8 ?l8 ?c8 ?k8 ?a9 ?l9 ?c9 ?k9 ?a10 ?l10 ?c10 ?k10 ?a11 ?l11 ?c11 ?k11 ?a12 ?l12 ?c12 ?k12 ?a13 ?l13 ?c13 ?k13 ?a14 ?l14 ?c14 ?k14 ?a15 ?l15 ?c15 ?k15 ?a16 ?l16 ?c16 ?k16 ?z_CAPITALS ?z_LONGEST_PATTERN ?z_MOST_LETTERS ?z_enumerate ?z_int ?z_isinstance ?z_len ?z_list ?z_range ?z_str ?y_nb
    (case a0 => k_is)
    (case l0 => k_is)
    (case c0 => k_is)
    (case k0 => k_is)
    (case a1 => k_is)
    (case l1 => k_is)
    (case c1 => k_is)
    (case k1 => k_is)
    (case a2 => k_is)
    (case l2 => k_is)
    (case c2 => k_is)
    (case k2 => k_is)
    (case a3 => k_is)
    (case l3 => k_is)
    (case c3 => k_is)
    (case k3 => k_is)
    (case a4 => k_is)
    (case l4 => k_is)
    (case c4 => k_is)
    (case k4 => k_is)
    (case a5 => k_is)
    (case l5 => k_is)
    (case c5 => k_is)
    (case k5 => k_is)
    (case a6 => k_is)
    (case l6 => k_is)
    (case c6 => k_is)
    (case k6 => k_is)
    (case a7 => k_is)
    (case l7 => k_is)
    (case c7 => k_is)
    (case k7 => k_is)
    (case a8 => k_is)
    (case l8 => k_is)
    (case c8 => k_is)
    (case k8 => k_is)
    (case a9 => k_is)
    (case l9 => k_is)
    (case c9 => k_is)
    (case k9 => k_is)
    (case a10 => k_is)
    (case l10 => k_is)
    (case c10 => k_is)
    (case k10 => k_is)
    (case a11 => k_is)
    (case l11 => k_is)
    (case c11 => k_is)
    (case k11 => k_is)
    (case a12 => k_is)
    (case l12 => k_is)
    (case c12 => k_is)
    (case k12 => k_is)
    (case a13 => k_is)
    (case l13 => k_is)
    (case c13 => k_is)
    (case k13 => k_is)
    (case a14 => k_is)
    (case l14 => k_is)
    (case c14 => k_is)
    (case k14 => k_is)
    (case a15 => k_is)
    (case l15 => k_is)
    (case c15 => k_is)
    (case k15 => k_is)
    (case a16 => k_is)
    (case l16 => k_is)
    (case c16 => k_is)
    (case k16 => k_is)
    (case z_CAPITALS => k_is)
    (case z_LONGEST_PATTERN => k_is)
    (case z_MOST_LETTERS => k_is)
    (case z_enumerate => k_is)
    (case z_int => k_is)
    (case z_isinstance => k_is)
    (case z_len => k_is)
    (case z_list => k_is)
    (case z_range => k_is)
    (case z_str => k_is)
    (case y_nb => k_is)
