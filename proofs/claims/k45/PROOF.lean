import PyProof.Rows.All
import Wide.All
import OpenK.AllK
import Wide.FinOn
import HandS.ForMost
import HandS.IsInst
import HandS.More
import HandS.Replace
import HandS.StrMore
import HandS.Style
import HandS.TupAny
import HandS.Walk
import HandS.Codes
import HandS.ForExc
import HandS.ExcIs
import PyProof.ReprRoads
import PyProof.Rows.CountFlat
import HandS.FStr
import HandS.RaiseMore
import HandS.Wide
import PySem.Challenge.RW_surepatterns_k45_sure_lengths
set_option Elab.async false
set_option linter.all false
set_option maxRecDepth 100000

namespace Lw
open PySem PySem.Spec PyProof.Rows L2
/-! ### short words for the readings: rd (what is known), n1 .. n6 (a new object), w1 .. w4 (a store) -/
local macro_rules | `(tactic| walk_at "rd1") => `(tactic| first | refine ⟨_, rfl, ?_⟩ | refine ⟨_, _, rfl, rfl, ?_⟩)
local macro_rules | `(tactic| walk_at "rd") => `(tactic| repeat walk_at "rd1")
set_option hygiene false in
local macro_rules | `(tactic| walk_at "n1") => `(tactic| (intro l1 n1; generalize h1 : upd _ l1 _ = H1; obtain ⟨S1, e1⟩ := nw h1 n1; clear h1))
set_option hygiene false in
local macro_rules | `(tactic| walk_at "n2") => `(tactic| (intro l2 n2; generalize h2 : upd _ l2 _ = H2; obtain ⟨S2, e2⟩ := nw h2 n2; clear h2))
set_option hygiene false in
local macro_rules | `(tactic| walk_at "n3") => `(tactic| (intro l3 n3; generalize h3 : upd _ l3 _ = H3; obtain ⟨S3, e3⟩ := nw h3 n3; clear h3))
set_option hygiene false in
local macro_rules | `(tactic| walk_at "n4") => `(tactic| (intro l4 n4; generalize h4 : upd _ l4 _ = H4; obtain ⟨S4, e4⟩ := nw h4 n4; clear h4))
set_option hygiene false in
local macro_rules | `(tactic| walk_at "n5") => `(tactic| (intro l5 n5; generalize h5 : upd _ l5 _ = H5; obtain ⟨S5, e5⟩ := nw h5 n5; clear h5))
set_option hygiene false in
local macro_rules | `(tactic| walk_at "n6") => `(tactic| (intro l6 n6; generalize h6 : upd _ l6 _ = H6; obtain ⟨S6, e6⟩ := nw h6 n6; clear h6))
set_option hygiene false in
local macro_rules | `(tactic| walk_at "n7") => `(tactic| (intro l7 n7; generalize h7 : upd _ l7 _ = H7; obtain ⟨S7, e7⟩ := nw h7 n7; clear h7))
set_option hygiene false in
local macro_rules | `(tactic| walk_at "n8") => `(tactic| (intro l8 n8; generalize h8 : upd _ l8 _ = H8; obtain ⟨S8, e8⟩ := nw h8 n8; clear h8))
set_option hygiene false in
local macro_rules | `(tactic| walk_at "n9") => `(tactic| (intro l9 n9; generalize h9 : upd _ l9 _ = H9; obtain ⟨S9, e9⟩ := nw h9 n9; clear h9))
set_option hygiene false in
local macro_rules | `(tactic| walk_at "w1") => `(tactic| (generalize h1 : upd _ _ _ = G1; obtain ⟨B1, f1⟩ := pt h1; clear h1))
set_option hygiene false in
local macro_rules | `(tactic| walk_at "w2") => `(tactic| (generalize h2 : upd _ _ _ = G2; obtain ⟨B2, f2⟩ := pt h2; clear h2))
set_option hygiene false in
local macro_rules | `(tactic| walk_at "w3") => `(tactic| (generalize h3 : upd _ _ _ = G3; obtain ⟨B3, f3⟩ := pt h3; clear h3))
set_option hygiene false in
local macro_rules | `(tactic| walk_at "w4") => `(tactic| (generalize h4 : upd _ _ _ = G4; obtain ⟨B4, f4⟩ := pt h4; clear h4))
set_option hygiene false in
local macro_rules | `(tactic| walk_at "w5") => `(tactic| (generalize h5 : upd _ _ _ = G5; obtain ⟨B5, f5⟩ := pt h5; clear h5))
set_option hygiene false in
local macro_rules | `(tactic| walk_at "n10") => `(tactic| (intro l10 n10; generalize h10 : upd _ l10 _ = H10; obtain ⟨S10, e10⟩ := nw h10 n10; clear h10))
set_option hygiene false in
local macro_rules | `(tactic| walk_at "n11") => `(tactic| (intro l11 n11; generalize h11 : upd _ l11 _ = H11; obtain ⟨S11, e11⟩ := nw h11 n11; clear h11))
set_option hygiene false in
local macro_rules | `(tactic| walk_at "n12") => `(tactic| (intro l12 n12; generalize h12 : upd _ l12 _ = H12; obtain ⟨S12, e12⟩ := nw h12 n12; clear h12))
set_option hygiene false in
local macro_rules | `(tactic| walk_at "n13") => `(tactic| (intro l13 n13; generalize h13 : upd _ l13 _ = H13; obtain ⟨S13, e13⟩ := nw h13 n13; clear h13))
set_option hygiene false in
local macro_rules | `(tactic| walk_at "n14") => `(tactic| (intro l14 n14; generalize h14 : upd _ l14 _ = H14; obtain ⟨S14, e14⟩ := nw h14 n14; clear h14))
set_option hygiene false in
local macro_rules | `(tactic| walk_at "n15") => `(tactic| (intro l15 n15; generalize h15 : upd _ l15 _ = H15; obtain ⟨S15, e15⟩ := nw h15 n15; clear h15))
set_option hygiene false in
local macro_rules | `(tactic| walk_at "n16") => `(tactic| (intro l16 n16; generalize h16 : upd _ l16 _ = H16; obtain ⟨S16, e16⟩ := nw h16 n16; clear h16))
set_option hygiene false in
local macro_rules | `(tactic| walk_at "n17") => `(tactic| (intro l17 n17; generalize h17 : upd _ l17 _ = H17; obtain ⟨S17, e17⟩ := nw h17 n17; clear h17))
set_option hygiene false in
local macro_rules | `(tactic| walk_at "n18") => `(tactic| (intro l18 n18; generalize h18 : upd _ l18 _ = H18; obtain ⟨S18, e18⟩ := nw h18 n18; clear h18))
set_option hygiene false in
local macro_rules | `(tactic| walk_at "n19") => `(tactic| (intro l19 n19; generalize h19 : upd _ l19 _ = H19; obtain ⟨S19, e19⟩ := nw h19 n19; clear h19))
set_option hygiene false in
local macro_rules | `(tactic| walk_at "n20") => `(tactic| (intro l20 n20; generalize h20 : upd _ l20 _ = H20; obtain ⟨S20, e20⟩ := nw h20 n20; clear h20))

/-! ### heaps -/
/-- all but what stands at p is as it was -/
def But (p : Addr) (H H' : Hp) : Prop := ∀ b o, b ≠ p → H b = some o → H' b = some o
theorem But.refl (p : Addr) (H : Hp) : But p H H := fun _ _ _ h => h
theorem But.trans {p : Addr} {H H1 H2 : Hp} (a : But p H H1) (b : But p H1 H2) : But p H H2 := fun c o n h => b c o n (a c o n h)
theorem But.of_same {p : Addr} {H H1 : Hp} (a : Same H H1) : But p H H1 := fun c o _ h => a c o h
theorem But.upd_at {p : Addr} {H H1 : Hp} {o : HO} (a : But p H H1) : But p H (upd H1 p o) := fun c u n h => by
  rw [upd_ne n]; exact a c u n h
theorem But.new {p q : Addr} {H H1 : Hp} {o : HO} (a : But p H H1) (hq : H1 q = none) : But p H (upd H1 q o) := fun c u n h => by
  rw [upd_ne (ne_of_none (a c u n h) hq)]; exact a c u n h
/-- a change at an address that was free at the start -/
theorem But.own {p q : Addr} {H H1 : Hp} {o : HO} (a : But p H H1) (hq : H q = none) : But p H (upd H1 q o) := fun c u n h => by
  rw [upd_ne (ne_of_none h hq)]; exact a c u n h
theorem But.free {p q : Addr} {H H1 : Hp} (a : But p H H1) (h : H1 q = none) (n : q ≠ p) : H q = none := by
  cases e : H q with
  | none => rfl
  | some o => rw [a q o n e] at h; cases h
theorem _root_.L2.Same.new {H : Hp} {q : Addr} {o : HO} (hq : H q = none) : Same H (upd H q o) := fun c u h => by
  rw [upd_ne (ne_of_none h hq)]; exact h
theorem _root_.L2.Same.own {H H1 : Hp} {q : Addr} {o : HO} (s : Same H H1) (hq : H q = none) : Same H (upd H1 q o) := fun c u h => by
  rw [upd_ne (ne_of_none h hq)]; exact s c u h
theorem But.seq {K : PySem.W.Frag} {p a : Addr} {H H' : Hp} {xs : List V} (e : But p H H') (n : a ≠ p) (h : SqL K H a xs) : SqL K H' a xs := by
  rcases h with (h | ⟨o, h⟩) | h
  · exact .inl (.inl (e _ _ n h))
  · exact .inl (.inr ⟨o, e _ _ n h⟩)
  · exact .inr h
theorem But.tup {K : PySem.W.Frag} {p a : Addr} {H H' : Hp} {xs : List V} (e : But p H H') (n : a ≠ p) (h : SqT K H a xs) : SqT K H' a xs := by
  rcases h with (h | ⟨o, h⟩) | h
  · exact .inl (.inl (e _ _ n h))
  · exact .inl (.inr ⟨o, e _ _ n h⟩)
  · exact .inr h
theorem sl_of {n : Nat} (h : n ≤ 100000) : n ≤ sizeLine := Nat.le_trans h (by decide)
theorem slt_of {n : Nat} (h : n < 100000) : n < sizeLine := Nat.lt_of_lt_of_le h (by decide)

/-! ### the pen: a list of a list of ints, the number of draws, what is left of the last one -/
def PenAt (H : Hp) (p c : Addr) (ns : List Int) (i z : Int) : Prop := H p = some (.lst [.ref c, .int i, .int z]) ∧ H c = some (.lst (ns.map V.int)) ∧ ns.length ≤ 12
def Pen (H : Hp) (p c : Addr) (n : Nat) : Prop := ∃ ns i z, PenAt H p c ns i z ∧ 0 ≤ i ∧ i ≤ (n : Int)
theorem PenAt.ne {H : Hp} {p c : Addr} {ns : List Int} {i z : Int} (h : PenAt H p c ns i z) : c ≠ p := by
  refine ne_of h.2.1 h.1 fun e => ?_
  injection e with e
  cases ns with
  | nil => cases e
  | cons x r => rw [List.map_cons] at e; injection e with e _; cases e
theorem Pen.mono {H : Hp} {p c : Addr} {n m : Nat} (h : Pen H p c n) (l : n ≤ m) : Pen H p c m := by
  obtain ⟨ns, i, z, a, b, d⟩ := h
  exact ⟨ns, i, z, a, b, by omega⟩
theorem Pen.same {H H' : Hp} {p c : Addr} {n : Nat} (h : Pen H p c n) (s : Same H H') : Pen H' p c n := by
  obtain ⟨ns, i, z, ⟨a1, a2, a3⟩, b, d⟩ := h
  exact ⟨ns, i, z, ⟨s _ _ a1, s _ _ a2, a3⟩, b, d⟩
theorem Pen.new {H : Hp} {p c q : Addr} {n : Nat} {o : HO} (h : Pen H p c n) (hq : H q = none) : Pen (upd H q o) p c n := h.same (Same.new hq)
theorem Pen.ne_free {H : Hp} {p c q : Addr} {n : Nat} (h : Pen H p c n) (hq : H q = none) : q ≠ p ∧ q ≠ c := by
  obtain ⟨ns, i, z, ⟨a1, a2, _⟩, _⟩ := h
  exact ⟨(ne_of_none a1 hq).symm, (ne_of_none a2 hq).symm⟩
/-- a store to what was made behind the pen -/
theorem Pen.list {H : Hp} {p c q : Addr} {n : Nat} {o : HO} (h : Pen H p c n) (hq : q ≠ p ∧ q ≠ c) : Pen (upd H q o) p c n := by
  obtain ⟨ns, i, z, ⟨a1, a2, a3⟩, b, d⟩ := h
  exact ⟨ns, i, z, ⟨by rw [upd_ne hq.1.symm]; exact a1, by rw [upd_ne hq.2.symm]; exact a2, a3⟩, b, d⟩
theorem mod13 (a : Int) : 0 ≤ a % 13 ∧ a % 13 < 13 := ⟨Int.emod_nonneg _ (by decide), Int.emod_lt_of_pos _ (by decide)⟩
theorem nw {H H1 : Hp} {p : Addr} {o : HO} (h : upd H p o = H1) (n : H p = none) : Same H H1 ∧ H1 p = some o := h ▸ ⟨Same.new n, upd_same⟩
theorem pt {H H1 : Hp} {p : Addr} {o : HO} (h : upd H p o = H1) : But p H H1 ∧ H1 p = some o := h ▸ ⟨(But.refl p H).upd_at, upd_same⟩

/-! ### the law's mixing: bounds alone -/
def primesL : List Int := [2147483629, 2147483587, 2147483579, 2147483563, 2147483549, 2147483543, 2147483497, 2147483489, 2147483477, 2147483423, 2147483399, 2147483353, 2147483323]
theorem primes_fin : ∀ j : Fin 13, 2147483323 ≤ primesL[j] ∧ primesL[j] ≤ 2147483629 := by decide
theorem primes_at (a : Int) : ∃ q : Int, atI (primesL.map V.int) (a % 13) = some (.int q) ∧ 2147483323 ≤ q ∧ q ≤ 2147483629 := by
  obtain ⟨h0, h1⟩ := mod13 a
  obtain ⟨j, hj⟩ := Int.eq_ofNat_of_zero_le h0
  have hl : j < 13 := by omega
  refine ⟨primesL[(⟨j, hl⟩ : Fin 13)], ?_, primes_fin ⟨j, hl⟩⟩
  rw [hj]
  refine atI_nat ?_
  rw [List.getElem?_map, List.getElem?_eq_getElem (show j < primesL.length from hl)]
  rfl
theorem mul_in {x y : Int} {m n : Int} (h0 : 0 ≤ x) (h1 : x ≤ m) (h2 : 0 ≤ y) (h3 : y ≤ n) : 0 ≤ x * y ∧ x * y ≤ m * n :=
  ⟨Int.mul_nonneg h0 h2, Int.mul_le_mul h1 h3 h2 (by omega)⟩
theorem mixed_lt (c a : Int) (h0 : 0 ≤ a) (h1 : a ≤ 1048576) : (c % 1000000007 * (2 * a + 69069) + a * 40503 + 977).natAbs < 2 ^ 64 := by
  have := mul_in (x := c % 1000000007) (y := 2 * a + 69069) (m := 1000000006) (n := 4000000) (by omega) (by omega) (by omega) (by omega)
  omega
theorem two_lt (c a o : Int) (h0 : 0 ≤ a) (h1 : a ≤ 1048576) (h2 : 0 ≤ o) (h3 : o ≤ 2147483629) : (o * (a + 3) + c % 65537 + 5).natAbs < 2 ^ 64 := by
  have := mul_in (x := o) (y := a + 3) (m := 2147483629) (n := 4000000) (by omega) (by omega) (by omega) (by omega)
  omega
theorem three_lt (a o t : Int) (h0 : 0 ≤ a) (h1 : a ≤ 1048576) (h2 : 0 ≤ t) (h3 : t ≤ 2147483629) : (t + o % 1009 + a).natAbs < 2 ^ 64 := by omega
theorem rest_in {x q : Int} (h1 : 2147483323 ≤ q) (h2 : q ≤ 2147483629) : 0 ≤ x % q ∧ x % q ≤ 2147483629 :=
  ⟨Int.emod_nonneg _ (by omega), by have := Int.emod_lt_of_pos x (show 0 < q by omega); omega⟩
/-! ### slices -/
def cutL {α : Type} (xs : List α) (lo hi : Option Int) : List α := (xs.drop (HT.sIx xs.length 0 lo)).take (HT.sIx xs.length xs.length hi - HT.sIx xs.length 0 lo)
theorem cutV_L (xs : List V) (lo hi : Option Int) : cutV xs lo hi = cutL xs lo hi := rfl
theorem cutL_map {α β : Type} (f : α → β) (xs : List α) (lo hi : Option Int) : cutL (xs.map f) lo hi = (cutL xs lo hi).map f := by
  unfold cutL
  rw [List.length_map, List.map_take, List.map_drop]
theorem cutL_pre {α : Type} (xs : List α) (k : Nat) : cutL xs none (some (k : Int)) = xs.take k := by
  unfold cutL
  rw [HT.sIx_none, HT.sIx_nat, List.drop_zero, Nat.sub_zero]
  by_cases h : k ≤ xs.length
  · rw [Nat.min_eq_left h]
  · rw [Nat.min_eq_right (by omega), List.take_length, List.take_of_length_le (by omega)]
theorem cutL_suf {α : Type} (xs : List α) (k : Nat) : cutL xs (some (k : Int)) none = xs.drop k := by
  unfold cutL
  rw [HT.sIx_none, HT.sIx_nat]
  by_cases h : k ≤ xs.length
  · rw [Nat.min_eq_left h, List.take_of_length_le (by rw [List.length_drop]; omega)]
  · rw [Nat.min_eq_right (by omega), List.drop_length, List.take_nil, List.drop_of_length_le (by omega)]
theorem cutL_mid {α : Type} (xs : List α) (j k : Nat) : cutL xs (some (j : Int)) (some (k : Int)) = (xs.take k).drop j := by
  unfold cutL
  rw [HT.sIx_nat, HT.sIx_nat]
  by_cases h : k ≤ xs.length
  · rw [Nat.min_eq_left h]
    by_cases h2 : j ≤ xs.length
    · rw [Nat.min_eq_left h2, List.drop_take]
    · rw [Nat.min_eq_right (by omega), List.drop_length, List.take_nil, List.drop_of_length_le (by rw [List.length_take]; omega)]
  · rw [Nat.min_eq_right (show xs.length ≤ k by omega), List.take_of_length_le (show xs.length ≤ k by omega)]
    by_cases h2 : j ≤ xs.length
    · rw [Nat.min_eq_left h2, List.take_of_length_le (by rw [List.length_drop]; omega)]
    · rw [Nat.min_eq_right (by omega), List.drop_length, List.take_nil, List.drop_of_length_le (by omega)]
theorem ix12 {n : Nat} (i : Nat) (h : 12 ≤ n) : ixN n ((i : Int) % 12) = some (i % 12) := by
  unfold ixN
  rw [if_pos (by omega), if_pos (by omega)]
  congr 1
def vN (k : Nat) : V := .int (k : Int)
theorem walk_rangeN {n : Nat} : Walk (Itr 0 n) n (fun _ => True) (YFn vN) := walk_range.mono (fun _ h => h) fun i H x H' _ _ y => ⟨y.1, by
  rw [y.2]
  show V.int (0 + (i : Int)) = V.int (i : Int)
  rw [Int.zero_add]⟩
/-- a comprehension's turn without a test -/
theorem yesT {σ : L2.St} {H : Hp} {A B : Hp → Prop} (h : A H) : tYes σ H fun b H3 => if b = true then A H3 else B H3 := by
  show (if true = true then A H else B H)
  rw [if_pos rfl]
  exact h
/-- a comprehension without a test whose turns change nothing -/
theorem lc_map {α : Type} {J : It} {G : Hp → Prop} {Y : Nat → Hp → V → Hp → Prop} (xs : List α) (f : α → V) (w : Walk J xs.length G Y) {g : TG} {te : TE} {vs : List Nat} {σ : L2.St} {H1 : Hp} {D : Addr} {Qd : Hp → Prop}
    (hD : H1 D = none) (hn : xs.length ≤ 100000) (hG : ∀ H', Same H1 H' → G H')
    (hs : ∀ i a x H' H'' (R : VK), xs[i]? = some a → Same H1 H' → Y i H' x H'' → (∀ H4, Same H' H4 → R (f a) H4) → g x (wipe σ vs) H'' fun σ2 H2 => wipe σ2 vs = wipe σ vs ∧ te σ2 H2 R)
    (hd : ∀ H', Same H1 H' → H' D = some (.lst (xs.map f)) → Qd H') :
    ∃ W : Nat → Nat → Hp → Prop, (∃ m, W 0 m (upd H1 D (.lst []))) ∧ ∀ i m H, W i m H →
      (J.stop i H ∧ Qd H) ∨ (J.go i H ∧ ∃ Nx : Hp → Prop, (∀ H', Nx H' → ∃ m', m' < m ∧ W (i + 1) m' H') ∧ ∀ x H', J.yld i H x H' → g x (wipe σ vs) H' fun σ2 H2 => wipe σ2 vs = wipe σ vs ∧ tYes σ2 H2 fun b H3 =>
        if b = true then te σ2 H3 fun y H4 => ∃ acc, H4 D = some (.lst acc) ∧ acc.length < sizeLine ∧ Nx (upd H4 D (.lst (acc ++ [y]))) else Nx H3) := by
  refine lc_it w (fun i H' => Same H1 H' ∧ H' D = some (.lst ((xs.take i).map f))) ⟨Same.new hD, upd_same⟩ (fun i H _ h => hG H h.1) (fun i x H' H'' hi h y => ?_) (fun H h => ?_)
  · obtain ⟨a, ha⟩ : ∃ a, xs[i]? = some a := ⟨_, List.getElem?_eq_getElem hi⟩
    have q := hs i a x H' H'' (fun y H4 => ∃ acc, H4 D = some (.lst acc) ∧ acc.length < sizeLine ∧ Same H1 (upd H4 D (.lst (acc ++ [y]))) ∧ (upd H4 D (.lst (acc ++ [y]))) D = some (.lst ((xs.take (i + 1)).map f))) ha h.1 y (fun H4 s => ?_)
    · exact q
    · refine ⟨_, s _ _ h.2, ?_, (h.1.trans s).own hD, ?_⟩
      · rw [List.length_map, List.length_take, sizeLine_eq]
        omega
      · rw [upd_same, List.take_add_one, ha, Option.toList_some, List.map_append]
        rfl
  · rw [List.take_length] at h
    exact hd H h.1 h.2
/-! ### rules with the written part named (within comprehensions) -/
section
variable {X : Cx} {K : PySem.W.Frag}
theorem ix_listK (h : X.K = K := by rfl) : IxR X (rIxL K) := h ▸ ix_list
theorem ix_tupK (h : X.K = K := by rfl) : IxR X (rIxT K) := h ▸ ix_tup
theorem sl_listK (h : X.K = K := by rfl) : SlR X (rSlL K) := h ▸ sl_list
theorem sl_tupAK (h : X.K = K := by rfl) : SlR X (rSlA K) := h ▸ sl_tupA
theorem call_lenK (h : X.K = K := by rfl) : CallR X (.builtin "len") (fun xs H Q => ∃ p ys, xs = [.ref p] ∧ (SqL K H p ys ∨ SqT K H p ys) ∧ Q (.int ys.length) H) := h ▸ call_len_seq
theorem call_listK (h : X.K = K := by rfl) : CallR X (.type "list") (fun xs H Q => ∃ p ys, xs = [.ref p] ∧ (SqL K H p ys ∨ SqT K H p ys) ∧ ∀ l, H l = none → Q (.ref l) (upd H l (.lst ys))) := h ▸ call_list_of
theorem op_inK (h : X.K = K := by rfl) : OpR X (compareOp .In) (rIn K false) := h ▸ op_in_seq
theorem op_notInK (h : X.K = K := by rfl) : OpR X (compareOp .NotIn) (rIn K true) := h ▸ op_notIn_seq
end

/-! ### texts as lists of code points -/
open SX (S)
theorem len_S (l : List Nat) : (S l).length = l.length := SX.S_len l
theorem ip_addS {X : Cx} : PIp X .Add (fun x y H Q => ∃ i j, x = .str i ∧ y = .str j ∧ i.length + j.length ≤ sizeLine ∧ Q (.str (i ++ j)) H) := iop_add_str
/-- text * number -/
def rRepS : R2 := fun x y H Q => ∃ z n, x = .str z ∧ y = .int n ∧ PySem.MulOk z n ∧ Q (.str (Txt.mul z n)) H
theorem op_repS {X : Cx} : OpR X (binaryOp .Mult) rRepS := by
  intro pins s σ H x y v u Q I rx ry h
  obtain ⟨z, n, rfl, rfl, ok, q⟩ := h
  obtain ⟨t, rfl⟩ := rx
  obtain ⟨t', rfl⟩ := ry
  exact PySem.SB.mul ok fun t' k => ⟨.str (Txt.mul z n), H, I.tok k, ⟨t', rfl⟩, q⟩
theorem mul_app (l : List Nat) : ∀ (n : Nat) (acc : List Nat), ((List.replicate n l.toArray).foldl (· ++ ·) acc.toArray) = (acc ++ (List.replicate n l).flatten).toArray
  | 0, acc => by simp
  | n + 1, acc => by
    rw [List.replicate_succ, List.foldl_cons, List.append_toArray, mul_app l n (acc ++ l), List.replicate_succ, List.flatten_cons, List.append_assoc]
theorem mul_S (l : List Nat) (n : Nat) : Txt.mul (S l) (n : Int) = S (List.replicate n l).flatten := by
  unfold Txt.mul
  by_cases h0 : (n : Int) < 1
  · have e : n = 0 := by omega
    subst e
    rw [if_pos h0]
    rfl
  · rw [if_neg h0]
    by_cases h1 : ((n : Int) == 1 || (S l).length == 0) = true
    · rw [if_pos h1]
      rcases Bool.or_eq_true_iff.mp h1 with h | h
      · have e : (n : Int) = 1 := eq_of_beq h
        have e2 : n = 1 := by omega
        subst e2
        simp
      · have e : (S l).length = 0 := eq_of_beq h
        rw [len_S] at e
        have e2 : l = [] := List.length_eq_zero_iff.mp e
        subst e2
        congr 1
        have : ∀ m : Nat, (List.replicate m ([] : List Nat)).flatten = [] := fun m => by
          induction m with
          | zero => rfl
          | succ m ih => rw [List.replicate_succ, List.flatten_cons, ih] <;> rfl
        rw [this]
    · rw [if_neg h1, Int.toNat_natCast]
      congr 1
      exact mul_app l n []
theorem mulOk_S {l : List Nat} {n : Nat} (h : l.length * n ≤ 100000) (hn : n ≤ 100000) : PySem.MulOk (S l) (n : Int) := by
  refine ⟨?_, fun h1 h2 => ?_, fun h1 h2 => ?_⟩
  · rw [decide_eq_false (by omega), decide_eq_false (by omega)] <;> rfl
  · rw [len_S]
    have h3 : ((l.length : Nat) : Int) * n ≤ 100000 := by
      rw [← Int.natCast_mul]
      omega
    have h4 : (1 : Int) ≤ n := by omega
    have h5 : (l.length : Int) ≤ (2 ^ 63 - 1) / (n : Int) := by
      refine (Int.le_ediv_iff_mul_le (by omega)).mpr ?_
      omega
    omega
  · rw [len_S, Int.toNat_natCast]
    refine decide_eq_false ?_
    rw [sizeLine_eq]
    omega
/-- text.index(sign) that is there -/
def rIdx : V → List V → Hp → VK → Prop := fun x xs H Q => ∃ (l : List Nat) (c : Nat), x = .str (S l) ∧ xs = [.str (S [c])] ∧ c ∈ l ∧ Q (.int (l.idxOf c : Nat)) H
theorem occ_idx {l : List Nat} {c : Nat} (h : c ∈ l) : ∃ r, Builtin.Str.occurrences (S l) (S [c]) 0 (S l).length 1 = l.idxOf c :: r := by
  have hi : l.idxOf c < l.length := List.idxOf_lt_length_iff.mpr h
  have hg : l[l.idxOf c]? = some c := by
    rw [List.getElem?_eq_getElem hi, List.getElem_idxOf hi]
  rcases StrLaws.occ_head (S l) (S [c]) 1 (Nat.le_refl 1) with ⟨_, hn⟩ | ⟨i, r, e, ha, hn⟩
  · exact absurd ((StrLaws.subAt_one (S l) c (l.idxOf c)).mpr hg) (hn _)
  · refine ⟨r, ?_⟩
    rw [e]
    congr 1
    have h1 : l[i]? = some c := (StrLaws.subAt_one (S l) c i).mp ha
    by_cases h2 : l.idxOf c < i
    · exact absurd ((StrLaws.subAt_one (S l) c (l.idxOf c)).mpr hg) (hn _ h2)
    · by_cases h3 : i < l.idxOf c
      · have := List.not_of_lt_findIdx (p := (· == c)) (xs := l) (i := i) h3
        obtain ⟨hl, e1⟩ := List.getElem?_eq_some_iff.mp h1
        rw [e1] at this
        simp at this
      · omega
theorem mt_idx {X : Cx} : MtR X "str.index" rIdx := by
  intro pins s σ H x xs v us Q I rx rs h
  obtain ⟨l, c, rfl, rfl, hc, q⟩ := h
  obtain ⟨r, e⟩ := occ_idx hc
  exact mt_sindex pins s σ H _ _ v us Q I rx rs ⟨_, _, _, r, rfl, rfl, e, q⟩
theorem pe_idx {X : Cx} {o e : Expr} {to te : TE} {apos pos : Pos} (ho : PE X o to) (he : PE X e te)
    (hs : starEach [e] X.env = [(false, eval e X.env)] := by rfl) (hbase : attributeBase o "index" X.env (eval o X.env) = eval o X.env := by rfl) (hline : (apos.endLine == pos.line) = true := by rfl) :
    PE X (.Call (.Attribute o "index" apos) [e] [] pos) (tM1 rIdx to te) := pe_m1 PySem.F.slot_str_index PySem.F.type_str_index mt_idx ho he hs hbase hline
theorem walk_S {l : List Nat} : Walk (Its (S l)) l.length (fun _ => True) (fun i H v H' => H' = H ∧ ∃ c, l[i]? = some c ∧ v = .str (S [c])) :=
  (walk_str (z := S l)).mono (fun _ h => h) fun i H x H' _ _ y => by
    obtain ⟨e, c, h1, h2⟩ := y
    refine ⟨e, c, ?_, h2⟩
    rw [← h1]
    simp
theorem cutS_S (l : List Nat) (lo hi : Option Int) : cutS (S l) lo hi = S (cutL l lo hi) := by
  unfold cutS cutL
  rw [len_S]
theorem join0 (ys : List (List Nat)) : Txt.join (S []) (ys.map S) = S ys.flatten := by
  rw [SX.join_S]
  congr 1
  have : ∀ ys : List (List Nat), TL.joinL [] ys = ys.flatten := fun ys => by
    induction ys with
    | nil => rfl
    | cons x r ih =>
      cases r with
      | nil => simp [TL.joinL]
      | cons y r => show x ++ ([] ++ TL.joinL [] (y :: r)) = _; rw [ih]; rfl
  rw [this]
theorem flat1 {α : Type} (f : α → Nat) (l : List α) : (l.map fun x => [f x]).flatten = l.map f := by
  induction l with
  | nil => rfl
  | cons x r ih => rw [List.map_cons, List.flatten_cons, ih]; rfl
theorem snocInd {α : Type} {P : List α → Prop} (h0 : P []) (hs : ∀ l a, P l → P (l ++ [a])) (l : List α) : P l := by
  have : ∀ r : List α, P r.reverse := fun r => by
    induction r with
    | nil => exact h0
    | cons x r ih => rw [List.reverse_cons]; exact hs _ _ ih
  have h := this l.reverse
  rw [List.reverse_reverse] at h
  exact h
/-! ### the different signs of a text -/
def dist (l : List Nat) : List Nat := l.foldl (fun acc c => if c ∈ acc then acc else acc ++ [c]) []
theorem dist_snoc (l : List Nat) (c : Nat) : dist (l ++ [c]) = if c ∈ dist l then dist l else dist l ++ [c] := by
  unfold dist
  rw [List.foldl_append]
  rfl
theorem dist_len (l : List Nat) : (dist l).length ≤ l.length := by
  refine snocInd (P := fun l => (dist l).length ≤ l.length) (Nat.le_refl _) (fun l c ih => ?_) l
  rw [dist_snoc, List.length_append]
  by_cases h : c ∈ dist l
  · rw [if_pos h]; exact Nat.le_succ_of_le ih
  · rw [if_neg h, List.length_append]; exact Nat.add_le_add_right ih _
theorem mem_dist {l : List Nat} {c : Nat} : c ∈ dist l ↔ c ∈ l := by
  refine snocInd (P := fun l => c ∈ dist l ↔ c ∈ l) Iff.rfl (fun l d ih => ?_) l
  rw [dist_snoc, List.mem_append, List.mem_singleton]
  by_cases h : d ∈ dist l
  · rw [if_pos h, ih]
    refine ⟨.inl, fun z => z.elim id fun e => ?_⟩
    subst e; exact ih.mp h
  · rw [if_neg h, List.mem_append, List.mem_singleton, ih]
theorem dist_nodup (l : List Nat) : (dist l).Nodup := by
  refine snocInd (P := fun l => (dist l).Nodup) List.nodup_nil (fun l d ih => ?_) l
  rw [dist_snoc]
  by_cases h : d ∈ dist l
  · rw [if_pos h]; exact ih
  · rw [if_neg h]
    exact List.nodup_append.mpr ⟨ih, List.nodup_cons.mpr ⟨List.not_mem_nil, List.nodup_nil⟩, fun a ha b hb => by
      rw [List.mem_singleton] at hb; subst hb; intro e; subst e; exact h ha⟩
theorem sum_le {ls : List Nat} {b : Nat} (h : ∀ x ∈ ls, x ≤ b) : ls.sum ≤ ls.length * b := by
  induction ls with
  | nil => simp
  | cons x r ih =>
    rw [List.sum_cons, List.length_cons, Nat.succ_mul]
    have h1 := h x List.mem_cons_self
    have h2 := ih fun y hy => h y (List.mem_cons_of_mem _ hy)
    omega
theorem join_ok {ys : List (List Nat)} (b : Nat) (hb : ∀ y ∈ ys, y.length ≤ b) (h : ys.length * b ≤ 100000) : ((ys.map S).map (·.length)).sum + (ys.map S).length * (S []).length ≤ 16777216 := by
  rw [SX.lens]
  have h1 : (ys.map (·.length)).sum ≤ (ys.map (·.length)).length * b := sum_le fun x hx => by
    obtain ⟨y, hy, rfl⟩ := List.mem_map.mp hx
    exact hb y hy
  rw [List.length_map] at h1
  show _ + _ * 0 ≤ _
  omega
theorem join_ok1 {α : Type} {l : List α} (f : α → Nat) (h : l.length ≤ 100000) : (((l.map fun c => [f c]).map S).map (·.length)).sum + ((l.map fun c => [f c]).map S).length * (S []).length ≤ 16777216 :=
  join_ok 1 (fun y hy => by obtain ⟨x, _, rfl⟩ := List.mem_map.mp hy; exact Nat.le_refl 1) (by rw [List.length_map]; omega)
theorem map_sg {α : Type} (f : α → Nat) (l : List α) : l.map (fun c => V.str (S [f c])) = ((l.map fun c => [f c]).map S).map V.str := by
  rw [List.map_map, List.map_map]
  rfl
theorem nodup_len {α : Type} [DecidableEq α] : ∀ {l m : List α}, l.Nodup → (∀ x ∈ l, x ∈ m) → l.length ≤ m.length
  | [], _, _, _ => Nat.zero_le _
  | x :: r, m, h, hs => by
    obtain ⟨h1, h2⟩ := List.nodup_cons.mp h
    have hx : x ∈ m := hs x List.mem_cons_self
    have := nodup_len (m := m.erase x) h2 fun y hy => (List.mem_erase_of_ne (fun e => h1 (by rw [← e]; exact hy))).mpr (hs y (List.mem_cons_of_mem _ hy))
    rw [List.length_erase_of_mem hx] at this
    have hp : 0 < m.length := List.length_pos_of_mem hx
    rw [List.length_cons]
    omega
theorem dist_few {l m : List Nat} (h : ∀ c ∈ l, c ∈ m) : (dist l).length ≤ m.length := nodup_len (dist_nodup l) fun c hc => h c (mem_dist.mp hc)

/-! ### patterns -/
def capL : List Nat := [65, 66, 67, 68, 69, 70, 71, 72, 73, 74, 75, 76, 77, 78, 79, 80, 81, 82, 83, 84, 85, 86, 87, 88, 89, 90]
theorem capS : (("ABCDEFGHIJKLMNOPQRSTUVWXYZ" : String) : Str) = S capL := by decide +kernel
theorem cap_nodup : capL.Nodup := by decide
def allIn (l m : List Nat) : Bool := l.all fun c => decide (c ∈ m)
theorem allIn_iff {l m : List Nat} : allIn l m = true ↔ ∀ c ∈ l, c ∈ m := by
  unfold allIn
  rw [List.all_eq_true]
  exact ⟨fun h c hc => of_decide_eq_true (h c hc), fun h c hc => decide_eq_true (h c hc)⟩
def patB (l : List Nat) : Bool := (decide (1 ≤ l.length) && decide (l.length ≤ 20)) && (allIn l capL && decide ((dist l).length ≤ 7))
structure Pat (l : List Nat) : Prop where
  lo : 1 ≤ l.length
  hi : l.length ≤ 20
  cap : ∀ c ∈ l, c ∈ capL
  few : (dist l).length ≤ 7
theorem pat_iff {l : List Nat} : patB l = true ↔ Pat l := by
  unfold patB
  rw [Bool.and_eq_true, Bool.and_eq_true, Bool.and_eq_true, decide_eq_true_eq, decide_eq_true_eq, decide_eq_true_eq, allIn_iff]
  exact ⟨fun h => ⟨h.1.1, h.1.2, h.2.1, h.2.2⟩, fun h => ⟨⟨h.lo, h.hi⟩, h.cap, h.few⟩⟩
/-- the normal form -/
def nf (l : List Nat) : List Nat := l.map fun c => capL[(dist l).idxOf c]?.getD 0
theorem idx_dist_lt {l : List Nat} {c : Nat} (h : c ∈ l) : (dist l).idxOf c < (dist l).length := List.idxOf_lt_length_iff.mpr (mem_dist.mpr h)

/-! ### defs under which a value is shown: nothing is being shown around them -/
structure FnG (P : Program) (w : World) (K : PySem.W.Frag) (mg : Str → Option Value) (base : Heap) (CX : CXT) (k : Nat) (f : Addr) (fd : FuncData) (ps : List Str) (sp : Sp) : Prop where
  len : ∀ vs H Q E, sp vs H Q E → vs.length = ps.length
  run : ∀ (A : Around) (outer : List Env) (s : Shared) (H : Hp) (args : Args) (us : List Value) (vs : List V) (Q : VK) (E : XK), A.guards = some [] → Room k A → Env0 P w K mg base A outer s H →
    BindsTo s fd args (ps.zip us) → Vals vs us → sp vs H Q E → codeAny (model P w) A (.call (.ref f) args) (CR CX outer P w H s Q E) s
section
variable {P : Program} {w : World} {K : PySem.W.Frag} {mg : Str → Option Value} {base : Heap} {CX : CXT} {k : Nat} {f : Addr} {fd : FuncData} {ps : List Str} {sp : Sp}
theorem FnG.of (F : FnOk P w K mg base CX k f fd ps sp) : FnG P w K mg base CX k f fd ps sp :=
  ⟨F.len, fun A outer s H args us vs Q E _ => F.run A outer s H args us vs Q E⟩
/-- the rule for a def, as Fun.ok -/
theorem _root_.L2.Fun.okGX {x qual : Str} {st : Stmt} {N : List Str} (F : Fun K x qual st f fd) (S : FnScope N ps (defScope st)) (len : ∀ vs H Q E, sp vs H Q E → vs.length = ps.length)
    (hbody : ∀ (cdv : Value) (A : Around) (outer : List Env) (s : Shared) (H : Hp) (vs : List V) (Q : VK) (E : XK), (A.deeper (envOfC qual (defScope st) s.heap.objs.size f cdv)).guards = some [] →
      Room k (A.deeper (envOfC qual (defScope st) s.heap.objs.size f cdv)) → sp vs H Q E →
      ∃ t, PSs (cxOf CX P w K mg base N qual (defScope st) f cdv A outer s H E) (defBody st) t ∧ t { nx := fun _ H' => Q .non H', rt := Q } (start N vs) H) :
    FnG P w K mg base CX (k + 1) f fd ps sp := by
  obtain ⟨oc, od, kV, doc, pm, an, cdv, ct, osl, rfl, lk, hcd⟩ := F.ex
  refine ⟨len, fun A outer s H args us vs Q E hgd room e0 bs rv hsp => ?_⟩
  have inK : K.In s.heap := e0.mod.kin.keeps fun c ob z => (e0.bs c ob z).1
  have kinds : ∀ y ∈ ps.zip us, (defScope st).names.lookup y.1 = some .local ∨ ((defScope st).names.lookup y.1 = some .cell ∧
      ((cellsFrom (s.heap.objs.size + 1) (defScope st).names []).lookup y.1).isSome = true) := by
    rintro ⟨n, v⟩ hy
    rcases S.par n (List.of_mem_zip hy).1 with q | q
    · exact Or.inl q
    · exact Or.inr ⟨q, PySem.W.cellsFrom_some _ _ _ (Or.inl q)⟩
  refine codeAny_call_function room.depth (inK _ _ lk) rfl S.co S.gen rfl (PySem.W.codeRec_of inK hcd) (bs _ _ _ _ ?_)
  refine wpAny_newFunctionEnv_cells S.kind kinds fun env he s1 x => ?_
  subst he
  refine ⟨(e0.mod.nolimit.keeps fun c ob z => (e0.bs c ob z).1).keeps x.toInCall.keep, codeAny_func ?_⟩
  obtain ⟨t, ht, hq⟩ := hbody cdv A outer s H vs Q E hgd (room.deeper _) hsp
  have I := inv_start (CX := CX) (E := E) S room.hd e0 (len _ _ _ _ hsp) rv x
  refine wpAny_mono (ht.run [] s1 (start N vs) H _ I hq) (fun fl s' z => ?_) fun _ _ z => z
  cases fl with
  | next =>
    obtain ⟨σ', H', J, q⟩ := z
    exact ⟨V.non, H', J.os, J.bare, J.base, J.hok, rfl, q⟩
  | ret u =>
    obtain ⟨v, σ', H', J, r, q⟩ := z
    exact ⟨v, H', J.os, J.bare, J.base, J.hok, r, q⟩
  | brk => obtain ⟨_, _, _, q⟩ := z; exact q.elim
  | cont => obtain ⟨_, _, _, q⟩ := z; exact q.elim
/-- .. where nothing is let out -/
theorem _root_.L2.Fun.okG {x qual : Str} {st : Stmt} {N : List Str} (F : Fun K x qual st f fd) (S : FnScope N ps (defScope st)) (len : ∀ vs H Q E, sp vs H Q E → vs.length = ps.length)
    (hbody : ∀ (cdv : Value) (A : Around) (outer : List Env) (s : Shared) (H : Hp) (vs : List V) (Q : VK) (E : XK), (A.deeper (envOfC qual (defScope st) s.heap.objs.size f cdv)).guards = some [] →
      Room k (A.deeper (envOfC qual (defScope st) s.heap.objs.size f cdv)) → sp vs H Q E →
      ∃ t, PSs (cxOf CX0 P w K mg base N qual (defScope st) f cdv A outer s H E).nox (defBody st) t ∧ t { nx := fun _ H' => Q .non H', rt := Q } (start N vs) H) :
    FnG P w K mg base CX0 (k + 1) f fd ps sp := L2.Fun.okGX F S len fun cdv A outer s H vs Q E g r h => by
  obtain ⟨t, h1, h2⟩ := hbody cdv A outer s H vs Q E g r h
  exact ⟨t, h1.nox, h2⟩
end
section
variable {X : Cx} {CX : CXT} {k : Nat} {f : Addr} {fd : FuncData} {ps : List Str} {sp : Sp} {x : Str} {p pos : Pos} {e : Expr} {es : List Expr} {t : TA}
theorem run_fnGS {pins : List (Addr × Obj)} {σ : L2.St} {H : Hp} {s : Shared} {Q : VK} {us : List Value} {vs : List V} {E : XK} (F : FnG X.prog X.w X.K X.mg X.base CX k f fd ps sp) (hgd : X.A.guards = some []) (hr : Room k X.A)
    (hb : Binds X.K fd ps []) (hx : ∀ (e : Value) (s' : Shared), CX X.stack H s E e s' → X.xe e s') (I : L2.Inv X pins σ H s) (r : Vals vs us) (h : sp vs H Q E) :
    wpAny (model X.prog X.w) X.A (call (.ref f) us) (EP X pins σ Q) X.xe s := by
  have b := hb s us I.kIn (by rw [List.append_nil, ← r.length]; exact F.len _ _ _ _ h)
  rw [List.append_nil] at b
  refine wpAny_call (codeAny_mono (F.run X.A X.stack s H ⟨us, []⟩ us vs Q E hgd hr I.env0 b r h) fun res s' z => ?_)
  match res, z with
  | .error e, z => exact hx e s' z
  | .ok (.ret u), z => exact I.after z
  | .ok .next, z => exact z.elim
  | .ok .brk, z => exact z.elim
  | .ok .cont, z => exact z.elim
theorem pe_callG (F : FnG X.prog X.w X.K X.mg X.base CX0 k f fd ps sp) (hgd : X.A.guards = some []) (hr : Room k X.A) (hg : Gl X x) (hm : X.mg x = some (.ref f)) (hk : PySem.W.keepIn X.K (.ref f) = true) (hb : Binds X.K fd ps [])
    (ha : PA X (e :: es) t) (hdb : (x == ("__debug__" : Str)) = false := by decide) (he : starEach (e :: es) X.env = (false, eval e X.env) :: starEach es X.env := by rfl)
    (hpl : (backTo pos (starEach es X.env)).any (·.1) = false := by rfl) : PE X (.Call (.Name x p) (e :: es) [] pos) (tCall sp [] E0 t) :=
  ⟨fun pins s σ H Q I h => wpAny_Call_Name_kw (ld_glob I hg hm (PySem.W.callWith_K (h₀ := X.base) I.ok.mod.kin hk
    (thn (ha.run pos pins s σ H _ I h) fun us s1 ⟨vs, H1, I1, r, q⟩ => ⟨I1.kIn, by
      have q' : sp (vs ++ []) H1 Q E0 := q
      rw [List.append_nil] at q'
      exact run_fnGS F hgd hr hb (fun _ _ z => z.elim) I1 r q'⟩) he hpl) hdb)⟩
theorem pe_callSG {E : L2.St → XK} (F : FnG X.prog X.w X.K X.mg X.base CX k f fd ps sp) (hgd : X.A.guards = some []) (hr : Room k X.A) (hg : Gl X x) (hm : X.mg x = some (.ref f)) (hk : PySem.W.keepIn X.K (.ref f) = true) (hb : Binds X.K fd ps [])
    (hx : ∀ σ, PassesAt CX X σ (E σ)) (ha : PA X (e :: es) t) (hdb : (x == ("__debug__" : Str)) = false := by decide)
    (he : starEach (e :: es) X.env = (false, eval e X.env) :: starEach es X.env := by rfl) (hpl : (backTo pos (starEach es X.env)).any (·.1) = false := by rfl) :
    PE X (.Call (.Name x p) (e :: es) [] pos) (tCallS sp E t) :=
  ⟨fun pins s σ H Q I h => wpAny_Call_Name_kw (ld_glob I hg hm (PySem.W.callWith_K (h₀ := X.base) I.ok.mod.kin hk
    (thn (ha.run pos pins s σ H _ I h) fun us s1 ⟨vs, H1, I1, r, q⟩ => ⟨I1.kIn, run_fnGS F hgd hr hb (fun _ _ z => hx σ pins H1 s1 _ _ I1 z) I1 r q⟩) he hpl) hdb)⟩
end
/-! ### repr -/
mutual
theorem dp_nodict {K : PySem.W.Frag} {H : Hp} : ∀ (d : PyData) (v : V), Dp K H v d → d.hasDict = false
  | .none, _, _ => rfl
  | .bool _, _, _ => rfl
  | .int _, _, _ => rfl
  | .str _, _, _ => rfl
  | .list ds, _, h => by cases h with | lst _ h2 => exact dp_nodicts ds _ h2
  | .tuple ds, _, h => by cases h with | tup _ h2 => exact dp_nodicts ds _ h2
  | .dict _, _, h => by cases h
theorem dp_nodicts {K : PySem.W.Frag} {H : Hp} : ∀ (ds : List PyData) (vs : List V), DpAll K H vs ds → PyData.hasDictAll ds = false
  | [], _, _ => rfl
  | d :: ds, _, h => by
    cases h with
    | cons h1 h2 =>
      have e1 := dp_nodict d _ h1
      have e2 := dp_nodicts ds _ h2
      simp [PyData.hasDictAll, e1, e2]
end
def rRepr (K : PySem.W.Frag) : List V → Hp → VK → Prop := fun xs H Q => ∃ x d, xs = [x] ∧ Dp K H x d ∧ d.showable = true ∧ d.depth ≤ 64 ∧ d.shown.length ≤ sizeLine ∧ Q (.str d.shown) H
theorem call_repr {X : Cx} (hg : X.A.guards = some []) (hu : X.A.units + 66 < cLine) : CallR X (.builtin "repr") (rRepr X.K) := by
  intro pins s σ H xs us Q I r h
  obtain ⟨x, d, rfl, hd, hs, hdep, hsz, q⟩ := h
  obtain ⟨u, rfl, rx⟩ := vals1 r
  have go : ∀ (h' : Heap) (t tk : Tok), (∀ b o, s.heap.get? b = some o → h'.get? b = some o) → EP X pins σ Q (.str d.shown t) { s with heap := h', toks := tk } :=
    fun h' t tk kp => ⟨.str d.shown, H, I.kept kp, ⟨t, rfl⟩, q⟩
  obtain ⟨as, rd⟩ := Dp.reads I d x u hd rx
  cases hd with
  | non => cases rx; exact P.repr_of_none (go _ _ _ fun _ _ z => z)
  | bl b => cases rx; exact P.repr_of_bool (go _ _ _ fun _ _ z => z)
  | int i => obtain ⟨t, rfl⟩ := rx; exact P.repr_of_int (of_decide_eq_true hs) (go _ _ _ fun _ _ z => z)
  | str z => obtain ⟨t, rfl⟩ := rx; exact P.repr_of_str (go _ _ _ fun _ _ z => z) hsz
  | lst h1 h2 =>
    cases rx
    exact repr_of_reads' rd hs (fun z => by rw [dp_nodict _ _ (.lst h1 h2)] at z; cases z) hg (by omega) (fun _ _ z => z) (fun h' t tk kp => go h' t tk kp) hsz
  | tup h1 h2 =>
    cases rx
    exact repr_of_reads' rd hs (fun z => by rw [dp_nodict _ _ (.tup h1 h2)] at z; cases z) hg (by omega) (fun _ _ z => z) (fun h' t tk kp => go h' t tk kp) hsz
theorem call_reprK {X : Cx} {K : PySem.W.Frag} (hg : X.A.guards = some []) (hu : X.A.units + 66 < cLine) (h : X.K = K := by rfl) : CallR X (.builtin "repr") (rRepr K) := h ▸ call_repr hg hu
theorem un66 {k : Nat} {A : Around} (hr : Room k A) : A.units + 66 < cLine := by have := hr.un; omega
/-! ### the end for a law whose def is one of these -/
theorem law_callG {P : Program} {w : World} {K : PySem.W.Frag} {mg mb : Str → Option Value} {k : Nat} {fa a : Addr} {fd : FuncData} {sp : Sp} {s₁ : Shared} {vs : List Value} {ns : List Int}
    (inK : K.In s₁.heap) (top : s₁.heap.Ns mainGlobals mg) (blt : s₁.heap.Ns builtinsNs mb) (blts : ∀ x : Str, x ≠ "__name__" → mb x = bootBuiltins x) (lim : s₁.heap.NoLimit) (gens : s₁.gens = #[])
    (ha : s₁.heap.get? a = some { cls := .type "list", data := .seq vs.toArray }) (isI : IntsAre vs ns) (size : ns.length ≤ sizeLine) (room : Room k callerA)
    (F : ∀ base : Heap, K.In base → base.Ns mainGlobals mg → FnG P w K mg base CX0 k fa fd ["script"] sp) (hbind : ∀ (s : Shared) (u : Value), BindsTo s fd ⟨[u], []⟩ [("script", u)])
    (hsp : ∀ H : Hp, Only H → SqL K H a (ns.map V.int) → sp [.ref a] H (fun v _ => v = .bl true) fun _ _ _ => False) :
    codeAny (model P w) callerA (.call (.ref fa) ⟨[.ref a], []⟩) (fun r s' => r = .ok (.ret (.bool true)) ∧ OldK s₁.heap s'.heap ∧ s'.os = s₁.os ∧ AllBare s'.gens) s₁ := by
  have rv : Vals (ns.map V.int) vs := vals_ints isI
  have core : ∀ H : Hp, Only H → SqL K H a (ns.map V.int) → HOk P w H s₁.heap → (∀ b, H b ≠ none → b = a) → (H a ≠ none → K.lookup a = none) →
      codeAny (model P w) callerA (.call (.ref fa) ⟨[.ref a], []⟩) (fun r s' => r = .ok (.ret (.bool true)) ∧ OldK s₁.heap s'.heap ∧ s'.os = s₁.os ∧ AllBare s'.gens) s₁ := by
    intro H only sq hok tracked notK
    have free : ∀ {b : Addr} {o : Obj}, s₁.heap.get? b = some o → (∀ es ep, o.data = .dict es ep → b ≠ a) := by
      intro b o e es ep d z
      rw [z, ha] at e
      cases e
      cases d
    have nsH : ∀ {b : Addr} {m : Str → Option Value}, s₁.heap.Ns b m → (hidT s₁.heap H).Ns b m := by
      rintro b m ⟨o, es, ep, e, d, rest⟩
      refine ⟨o, es, ep, hidT_get e ?_, d, rest⟩
      cases q : H b with
      | none => rfl
      | some u => exact absurd (tracked b (by rw [q]; exact fun z => nomatch z)) (free e es ep d)
    have KH : K.In (hidT s₁.heap H) := by
      intro b o e
      refine hidT_get (inK b o e) ?_
      cases q : H b with
      | none => rfl
      | some u =>
        have hb := tracked b (by rw [q]; exact fun z => nomatch z)
        rw [hb] at e q
        rw [notK (by rw [q]; exact fun z => nomatch z)] at e
        cases e
    obtain ⟨mc, l1, l2⟩ := lim
    have e0 : Env0 P w K mg (hidT s₁.heap H) callerA [] s₁ H :=
      ⟨rfl, ⟨KH, nsH top, ⟨mb, nsH blt, blts⟩, ⟨mc, nsH l1, l2⟩⟩, fun b o e => of_hidT e, Nat.le_of_eq (hidT_size _ _), trivial, (fun b hb => nomatch hb), hok, .of_eq gens⟩
    refine codeAny_mono ((F _ KH (nsH top)).run callerA [] s₁ H ⟨[.ref a], []⟩ [.ref a] [.ref a] _ _ rfl room e0 (hbind s₁ (.ref a)) (.cons rfl .nil) (hsp H only sq)) fun r s' z => ?_
    match r, z with
    | .error _, z => exact z.elim
    | .ok .next, z => exact z.elim
    | .ok .brk, z => exact z.elim
    | .ok .cont, z => exact z.elim
    | .ok (.ret u), z =>
      obtain ⟨v, H', os, bare, un, hok', rel, tru⟩ := z
      replace tru : v = .bl true := tru
      subst tru
      obtain rfl : u = Value.bool true := rel
      refine ⟨rfl, OldK.of_keep fun b o e => ?_, os, bare⟩
      rcases only b with q | ⟨ob, xs, q⟩
      · exact un.keep b o e q (fun h => nomatch h) (fun h => nomatch h)
      · have same1 := (hok b _ q).1
        have same2 := (hok' b _ (un.frzs b ob _ q)).1
        rw [e] at same1
        cases same1
        exact same2
  cases hk : K.lookup a with
  | some o =>
    have e := inK a o hk
    rw [ha] at e
    cases e
    exact core (fun _ => none) (fun _ => Or.inl rfl) (Or.inr ⟨_, vs.toArray, _, hk, rfl, rfl, rfl, by rw [List.size_toArray, isI.length]; exact size, by simpa using rv⟩)
      (fun _ _ z => nomatch z) (fun _ z => absurd rfl z) fun z => absurd rfl z
  | none =>
    have at_a : ∀ b, b ≠ a → (if b = a then some (HO.frz { cls := .type "list", data := .seq vs.toArray } (.lst (ns.map V.int))) else none) = none := fun b z => if_neg z
    refine core (fun b => if b = a then some (.frz { cls := .type "list", data := .seq vs.toArray } (.lst (ns.map V.int))) else none) (fun b => ?_)
      (Or.inl (Or.inr ⟨{ cls := .type "list", data := .seq vs.toArray }, if_pos rfl⟩)) (fun b u z => ?_) (fun b z => Classical.byContradiction fun q => z (at_a b q)) fun _ => hk
    · by_cases q : b = a
      · exact Or.inr ⟨_, _, if_pos q⟩
      · exact Or.inl (at_a b q)
    · by_cases q : b = a
      · have z2 := (if_pos q).symm.trans z
        cases z2
        subst q
        exact ⟨ha, by rw [List.length_map]; exact size, vs, _, rv, ha⟩
      · have z2 := (at_a b q).symm.trans z
        cases z2
theorem walk_ofG {l : PySem.W.OpenLaw} {k : Nat} {q : Program} {loose : List Str} {XP : (Str → Option Value) → Heap → Prop} {YP : World → Heap → Prop} {d : DefRec} {K : Params → PySem.W.Frag} {sp : World → Sp}
    (hn : l.most = some 63) (hdf : d.params.defaults = []) (hr : Room k callerA) (hY : ∀ (w : World) (h : Heap), YP w h → (K w.params).In h)
    (F : ∀ (w : World) (mg : Str → Option Value) (fa : Addr) (h : Heap), (K w.params).In h → h.Ns mainGlobals mg → mg d.name = some (.ref fa) →
      ∃ fd : FuncData, (∀ (s : Shared) (u : Value), BindsTo s fd ⟨[u], []⟩ [("script", u)]) ∧
        ∀ base : Heap, (K w.params).In base → base.Ns mainGlobals mg → FnG l.prog w (K w.params) mg base CX0 k fa fd ["script"] (sp w))
    (hsp : ∀ (w : World) (H : Hp) (a : Addr) (ns : List Int), ns.length ≤ 63 → Only H → SqL (K w.params) H a (ns.map V.int) → sp w [.ref a] H (fun v _ => v = .bl true) fun _ _ _ => False) :
    PySem.W.WalkO q loose XP YP l.row.toRowW d [] (fun f vs => PySem.call f vs) := by
  refine Att.attach_call hn hdf fun w s₀ s₁ mg mb fa o pm cd doc a vs ns G Y ho hd hcd hmg hobj hints hlen hg => ?_
  obtain ⟨fd, hb, hF⟩ := F w mg fa _ (hY w _ Y) G.T.g hmg
  exact law_callG (hY w _ Y) G.T.g G.T.b G.T.builtins G.T.nolimit hg hobj hints (Nat.le_trans hlen (by decide)) hr hF hb (fun H hO hS => hsp w H a ns hlen hO hS)

/-! ### an exception that a suite puts away: behind the try it is an object like others -/
/-- an exception of the class cls with the own dict d, at a -/
def ExcO (cls : Value) (d : Option Addr) (a : Addr) : HO := .ext fun h => ∃ (oe : Obj) (vs : Array Value), h.get? a = some oe ∧ Zc cls d oe ∧ oe.data = .fields vs
def endKeep (i : Nat) (a : Addr) (cls : Value) (d : Option Addr) (D : Ends) : Ends where
  nx := fun σ' H' => (H' a = none → D.nx (List.set σ' i none) (upd H' a (ExcO cls d a)))
  rt := D.rt
  bk := fun σ' H' => D.bk (List.set σ' i none) H'
  ct := fun σ' H' => D.ct (List.set σ' i none) H'
def wKeep (K : PySem.W.Frag) (c : Value) (i : Nat) (ts : Addr → Value → Option Addr → TS) (Wout : WX) (D : Ends) : WX := fun cls d σ H =>
  ∃ b, PySem.W.exmOne K cls c = some b ∧ (b = true → ∀ a, H a = none → ts a cls d (endKeep i a cls d D) (List.set σ i (some (.ref a))) H) ∧ (b = false → Wout cls d σ H)
section
variable {X : Cx} {pins : List (Addr × Obj)} {σ : L2.St} {H : Hp} {s : Shared}
/-- what was made since the entry and is untracked is tracked from now on -/
theorem Inv.keepExc {a : Addr} {oe : Obj} {vs : Array Value} {cls : Value} {d : Option Addr} (I : L2.Inv X ((a, oe) :: pins) σ H s) (hz : Zc cls d oe) (hd : oe.data = .fields vs)
    (new : ∀ o, X.s_0.heap.get? a = some o → X.H_0 a = none → a ∉ X.ex → False) (np : ∀ p ∈ X.pn ++ pins, p.1 ≠ a) : L2.Inv X pins σ (upd H a (ExcO cls d a)) s := by
  obtain ⟨he, na, nL, nF, nC⟩ := I.pin (a, oe) (List.mem_append_right _ List.mem_cons_self)
  have off : ∀ {b : Addr} {u : HO}, H b = some u → (upd H a (ExcO cls d a)) b = some u := fun {b u} z => by rw [upd_ne (ne_of_none z na)]; exact z
  have un : Un X.fs X.ex X.H_0 (upd H a (ExcO cls d a)) X.s_0.heap s.heap :=
    { keep := I.base.keep
      slot := I.base.slot
      there := I.base.there
      free := fun b o q n hx => by
        by_cases e : b = a
        · subst e; exact (new o q n hx).elim
        · rw [upd_ne e]; exact I.base.free b o q n hx
      tups := fun b xs q => off (I.base.tups b xs q)
      frzs := fun b o u q => off (I.base.frzs b o u q)
      tbls := fun b ps q => by obtain ⟨more, z⟩ := I.base.tbls b ps q; exact ⟨more, off z⟩ }
  have there : ObjOk X.prog X.w (upd H a (ExcO cls d a)) s.heap a (ExcO cls d a) :=
    ⟨⟨oe, vs, he, hz, hd⟩, ⟨oe, he⟩, fun h1 h2 ⟨o, v, q1, q2, q3⟩ kp => ⟨o, v, kp o q1, q2, q3⟩⟩
  refine ⟨I.ok, I.os, I.bare, un, I.loc, I.cell, ?_, fun x c z => ?_, fun p hp => ?_, fun b u z => ?_, I.len⟩
  · rw [upd_ne (Ne.symm nL)]; exact I.free
  · obtain ⟨v, hv⟩ := I.cell x c z
    have nc : c ≠ a := fun e => by
      subst e
      obtain ⟨o, h1, h2⟩ := hv
      have eo : oe = o := Option.some.inj (he.symm.trans h1)
      exact nC v (by show oe.data = _; rw [eo]; exact h2)
    rw [upd_ne nc]
    exact I.freeC x c z
  · have q := I.pin p (by
      rcases List.mem_append.mp hp with h | h
      · exact List.mem_append_left _ h
      · exact List.mem_append_right _ (List.mem_cons_of_mem _ h))
    exact ⟨q.1, by rw [upd_ne (np p hp)]; exact q.2.1, q.2.2⟩
  · by_cases e : b = a
    · subst e
      rw [upd_same] at z
      cases z
      exact there
    · rw [upd_ne e] at z
      refine (I.hok b u z).stay (fun _ _ _ q => q) (fun c q => off q) (fun c xs q => off q)
end
section
variable {X : Cx} {x n : Str} {c : Value} {i : Nat} {body suite : List Stmt} {b₀ : Stmt} {np pos pos' : Pos} {tb : WX → TS} {ts : Addr → Value → Option Addr → TS} {Wout : WX}
/-- try: body / except x as n: suite, where the suite may put the exception away -/
theorem ps_try_keep (hs : X.stack = X.env :: X.outer) (hf : X.env.frame = some X.env.locals) (hN : X.N.Nodup) (hi : X.N[i]? = some n) (hln : X.env.kindOf n = some .local) (hc : Names X x c) (tk : Takes X Wout)
    (hb : ∀ (W : WX) (pn : List (Addr × Obj)) (xe : Value → Shared → Prop), Takes (X.tr pn xe) W → PassesOwn (model X.prog X.w) X.A X.env xe → PSs (X.tr pn xe) body (tb W))
    (hsu : ∀ (a : Addr) (oe : Obj) (cls : Value) (d : Option Addr) (pn : List (Addr × Obj)), Zc cls d oe → (∃ vs, oe.data = .fields vs) → PSs (X.suite a ((a, oe) :: pn)) (b₀ :: suite) (ts a cls d)) :
    PS X (.Try body [.ExceptHandler (some (.Name x np)) (some n) (b₀ :: suite) pos'] [] [] pos) (fun D σ H => tb (wKeep X.K c i ts Wout D) D σ H) := by
  constructor
  intro pins s σ H D I h
  have frames : X.A.frames = some (X.env :: X.outer) := by rw [I.ok.frames, hs]
  refine wpAny_Try_except (wpAny_mono ((hb (wKeep X.K c i ts Wout D) (X.pn ++ pins) _ (fun u s' xx => ?caught) PassesOwn.looking).run [] s σ H D (I.toTry _) h) (fun f s1 z => ?through) (fun _ _ z => z))
  case through =>
    cases f with
    | next => obtain ⟨σ', H', J, q⟩ := z; exact wpAny_execs_nil ⟨σ', H', J.ofTry I.ok, q⟩
    | brk => obtain ⟨σ', H', J, q⟩ := z; exact ⟨σ', H', J.ofTry I.ok, q⟩
    | cont => obtain ⟨σ', H', J, q⟩ := z; exact ⟨σ', H', J.ofTry I.ok, q⟩
    | ret u => obtain ⟨v, σ', H', J, r, q⟩ := z; exact ⟨v, σ', H', J.ofTry I.ok, r, q⟩
  case caught =>
    obtain ⟨a, B, sI, pins', σ', H', cls, d, rfl, JT, nb, up, sky, na, os, ag, b, test, yes, no⟩ := xx
    have J : L2.Inv X pins σ' H' sI := JT.ofTry I.ok
    show wpAny (model X.prog X.w) X.A (noteFrame (.ref a) X.env) _ _ _
    refine Sky.land Zc.steady frames hf (show Sky B (X.env :: X.outer) a (Zc cls d) X.env.locals s'.heap by rw [← hs]; exact sky) fun h3 fl3 up3 => ?_
    have J3 : L2.Inv X pins σ' H' { s' with heap := h3 } := J.landed nb fl3.1 (up.trans up3) os ag
    obtain ⟨oe3, vs3, he3, hz3, hd3⟩ := fl3.there
    have offFrames : a ∉ frs (X.env :: X.outer) := fun hm => by
      obtain ⟨_, o, eo, hnf⟩ := (fl3.2.2.1).mem hm
      exact hnf vs3 (by rw [← Option.some.inj (he3.symm.trans eo)]; exact hd3)
    have fresh : sI.heap.get? a = none := by
      cases q : sI.heap.get? a with
      | none => rfl
      | some o =>
        have z := nb a o q (by rw [hs]; exact offFrames)
        rw [fl3.2.1] at z
        cases z
    have nL : a ≠ X.env.locals := fun z => offFrames (List.mem_filterMap.mpr ⟨X.env, List.mem_cons_self, by rw [hf, z]⟩)
    have nF : a ∉ X.fs := fun hm => by
      obtain ⟨e, he, q⟩ := List.mem_filterMap.mp hm
      exact offFrames (List.mem_filterMap.mpr ⟨e, List.mem_cons_of_mem _ he, q⟩)
    have S3 := J3.suite he3 hd3 na nL nF
    refine wpAny_handleBy_cons (codeAny_handlers_test ?_) (fun q => nomatch q)
    have looks : PySem.W.Looks (model X.prog X.w) h3 (typeOf (.ref a)) cls := fun A Q E s k q => wpAny_typeOf_ref (k _ _ he3) (by rw [hz3.1]; exact q)
    have named : ∀ {Q : Value → Shared → Prop} {E : Value → Shared → Prop}, Q c { s' with heap := h3 } → wpAny (model X.prog X.w) (X.A.mark (some (.ref a))) (eval (.Name x np) X.env) Q E { s' with heap := h3 } := by
      intro Q E q
      obtain ⟨glob, dbg, own | ⟨notOwn, boot, notName⟩⟩ := hc
      · exact ld_glob (X := X.suite a ((a, oe3) :: (X.pn ++ pins))) S3 glob own q dbg
      · exact ld_blt (X := X.suite a ((a, oe3) :: (X.pn ++ pins))) S3 glob notOwn boot q notName dbg
    refine named ((PySem.W.exm_one (M := model X.prog X.w) (J3.kIn) looks test).here ?_)
    cases b with
    | true =>
      refine codeAny_handlers_suite_as (HandSPX.lands_againZ fl3 fun h4 fl4 up4 => ?_)
      have J4 : L2.Inv X pins σ' H' { s' with heap := h4 } := J.landed nb fl4.1 ((up.trans up3).trans up4) os ag
      obtain ⟨oe4, vs4, he4, hz4, hd4⟩ := fl4.there
      refine store_ok (X := X.suite a ((a, oe4) :: (X.pn ++ pins))) (v := .ref a) (J4.suite he4 hd4 na nL nF) hN hi (.inl hln) rfl (fun s5 S5 => ?_) (.inr hln)
      refine wpAny_mono ((hsu a oe4 cls d (X.pn ++ pins) hz4 ⟨_, hd4⟩).run [] s5 _ H' _ S5 (yes rfl a na)) (fun f s6 z => ?_) (fun _ _ z => z.elim)
      have away : ∀ {σ6 : L2.St} {H6 : Hp} {Q : Shared → Prop}, L2.Inv (X.suite a ((a, oe4) :: (X.pn ++ pins))) [] σ6 H6 s6 → (∀ s7, L2.Inv X ((a, oe4) :: pins) (List.set σ6 i none) H6 s7 → Q s7) →
          wpAny (model X.prog X.w) X.A (do bindName X.env n .none; unbindBehindTheSuite X.env n pos') (fun _ s7 => Q s7) X.xe s6 := by
        intro σ6 H6 Q S6 hq
        refine gone_ok (X := X) (pins := (a, oe4) :: pins) ((S6.unsuite I.ok).pins_of fun p hp => ?_) hN hi hln hq
        rcases List.mem_cons.mp hp with z | z
        · subst z; exact S6.pin _ (List.mem_append_left _ List.mem_cons_self)
        · exact S6.pin p (List.mem_append_left _ (List.mem_cons_of_mem _ (List.mem_append_right _ z)))
      have back : ∀ {σ7 : L2.St} {H7 : Hp} {s7 : Shared}, L2.Inv X ((a, oe4) :: pins) σ7 H7 s7 → L2.Inv X pins σ7 H7 s7 := fun S7 =>
        S7.pins_of fun p hp => S7.pin p (List.mem_append_right _ (List.mem_cons_of_mem _ hp))
      cases f with
      | next =>
        obtain ⟨σ6, H6, S6, q6⟩ := z
        refine away S6 fun s7 S7 => ⟨_, _, Inv.keepExc S7 hz4 hd4 (fun o e0 n0 x0 => ?_) (fun p hp e => ?_), q6 (S7.pin (a, oe4) (List.mem_append_right _ List.mem_cons_self)).2.1⟩
        · have z := J.base.keep a o e0 n0 nF x0
          rw [fresh] at z
          cases z
        · have z := (J.pin p hp).1
          rw [e, fresh] at z
          cases z
      | brk => obtain ⟨σ6, H6, S6, q6⟩ := z; exact away S6 fun s7 S7 => ⟨_, _, back S7, q6⟩
      | cont => obtain ⟨σ6, H6, S6, q6⟩ := z; exact away S6 fun s7 S7 => ⟨_, _, back S7, q6⟩
      | ret u => obtain ⟨v6, σ6, H6, S6, r6, q6⟩ := z; exact away S6 fun s7 S7 => ⟨_, _, _, back S7, r6, q6⟩
    | false =>
      show wpAny _ X.A (handleBy (.ref a) X.env []) _ _ _
      obtain ⟨k1, k2, k3, oe, vs, T, oT, ts', he, hz, hd, h1, hr⟩ := id fl3
      refine wpAny_handleBy_nil ?_
      unfold PySem.passOn
      refine wpAny_bind (wpAny_field he hd h1 ?_)
      rw [if_neg (show ¬ ((Value.ref T == Value.none) = true) from by simp)]
      have up2 : wpAny (model X.prog X.w) X.A (setFlight (.ref a) X.env.frame) (fun _ s4 => wpAny (model X.prog X.w) X.A (throw (.ref a) : Sem Flow) (SP X pins D) X.xe s4) X.xe { s' with heap := h3 } := by
        rw [hf]
        exact HandSPX.setFlight_upZ fl3 fun h4 hh4 up4 => wpAny_throw (tk _ _
          ⟨a, B, sI, pins, σ', H', cls, d, rfl, J, nb, (up.trans up3).trans up4, .inr (.inr (by rw [hs]; exact hh4)), na, os, ag, no rfl⟩)
      first
        | exact wpAny_bind (wpAny_pure (wpAny_bind up2))
        | exact wpAny_bind up2
end
/-! ### isinstance of such an object -/
def rIsO (K : PySem.W.Frag) : List V → Hp → VK → Prop := fun xs H Q => ∃ (a D : Addr) (c : V) (cv : Value) (b : Bool), xs = [.ref a, c] ∧ H a = some (ExcO (.ref D) none a) ∧ ExcC K D ∧ (∀ u, RelV c u → u = cv) ∧ PySem.W.kitOne K (.ref D) cv = some b ∧ Q (.bl b) H
theorem call_isO {X : Cx} : CallR X (.builtin "isinstance") (rIsO X.K) := by
  intro pins s σ H xs us Q I r h
  obtain ⟨a, D, c, cv, b, rfl, ha, C, hcv, e, q⟩ := h
  obtain ⟨u1, u2, rfl, rx, rt⟩ := vals2 r
  cases rx
  obtain rfl := hcv _ rt
  obtain ⟨⟨oe, vs, he, hz, hd⟩, _⟩ := (show ObjOk X.prog X.w H s.heap a (ExcO (.ref D) none a) from I.hok a _ ha)
  have J : PySem.W.InstAt s.heap a oe D none := ⟨he, hz.1, by unfold PySem.W.notCls; rw [hd] <;> rfl, by rw [hz.2]; trivial⟩
  exact PySem.W.kia_one (PySem.W.handS_kitx_exc C.hg C.hk C.hs C.hd C.ha C.hn C.ht C.hm) I.kIn J e (fun z => nomatch z) fun tk => ⟨.bl b, H, I.kept (t' := tk) fun _ _ z => z, rfl, q⟩
theorem call_isOK {X : Cx} {K : PySem.W.Frag} (h : X.K = K := by rfl) : CallR X (.builtin "isinstance") (rIsO K) := h ▸ call_isO
/-! ### list.count of truth values -/
def rCntB (K : PySem.W.Frag) : V → List V → Hp → VK → Prop := fun x xs H Q => ∃ (p : Addr) (bs : List Bool) (k : Bool), x = .ref p ∧ xs = [.bl k] ∧ SqL K H p (bs.map V.bl) ∧ Q (.int (bs.count k : Nat)) H
theorem dpAll_bl {K : PySem.W.Frag} {H : Hp} : ∀ bs : List Bool, DpAll K H (bs.map V.bl) (bs.map PyData.bool)
  | [] => .nil
  | b :: r => .cons (.bl b) (dpAll_bl r)
theorem countIn_bl (k : Bool) : ∀ bs : List Bool, PySem.Spec.countIn (.bool k) (bs.map PyData.bool) = ((bs.count k : Nat) : Int)
  | [] => rfl
  | b :: r => by
    have ih := countIn_bl k r
    rw [List.map_cons, PySem.Spec.countIn, ih, List.count_cons]
    cases b <;> cases k <;> simp [PySem.Spec.same] <;> omega
theorem mt_countB {X : Cx} : MtR X "list.count" (rCntB X.K) := by
  intro pins s σ H x xs v us Q I rx rxs h
  obtain ⟨p, bs, k, rfl, rfl, hs, q⟩ := h
  cases rx
  obtain ⟨u, rfl, ru⟩ := rxs.one
  cases ru
  obtain ⟨its, rv, pl, hlen⟩ := I.list hs
  obtain ⟨as, ra⟩ := Dp.readsAll I _ _ _ (dpAll_bl bs) rv
  refine PyProof.Rows.count_list_bools (k := k) pl.isList ra ?_ ?_
  · rw [List.all_map]
    exact List.all_eq_true.mpr fun _ _ => rfl
  · rw [countIn_bl]
    exact ⟨.int (bs.count k : Nat), H, I.tok _, ⟨s.toks, rfl⟩, q⟩

/-! ### the program's error classes, as the top has made them -/
structure Exn (K : PySem.W.Frag) (D PE : Addr) : Prop where
  x : PySem.W.excIn K D [.type "ValueError", .type "Exception", .type "BaseException", .type "object"] "ValueError.__new__" = true
  k : PySem.W.keepIn K (.ref D) = true
  b : PySem.W.subIn K (.ref D) (.type "BaseException") = some true
  t : PySem.W.typeIn K (.ref D) = some (.type "type")
  m : PySem.W.exmOne K (.ref D) (.ref PE) = some true
  i : ExcC K D
  v : PySem.W.kitOne K (.ref D) (.type "ValueError") = some true
  p : PySem.W.kitOne K (.ref D) (.ref PE) = some true
theorem exn_mk {K : PySem.W.Frag} {D PE : Addr} (x : PySem.W.excIn K D [.type "ValueError", .type "Exception", .type "BaseException", .type "object"] "ValueError.__new__" = true) (k : PySem.W.keepIn K (.ref D) = true)
    (b : PySem.W.subIn K (.ref D) (.type "BaseException") = some true) (t : PySem.W.typeIn K (.ref D) = some (.type "type")) (s : PySem.W.subIn K (.ref D) (.ref PE) = some true)
    (h1 : PySem.W.subIn K (.ref PE) (.type "BaseException") = some true) (h2 : PySem.W.hasDictIn K PE = true) (h3 : PySem.W.typeIn K (.ref PE) = some (.type "type"))
    (hg : PySem.W.findIn K (.ref D) "__getattribute__" = some (some (.builtin "BaseException.__getattribute__"))) (hk : PySem.W.findIn K (.ref D) "__getattr__" = some none) (hd : PySem.W.hasDictIn K D = true)
    (ha : PySem.W.findIn K (.ref D) "__class__" = some (some (.builtin "object.__class__"))) (hn : PySem.W.specialIn K (.builtin "object.__class__") "__get__" = some (some (.builtin "getset_descriptor.__get__")))
    (ht : PySem.W.takesIn K (.builtin "object.__class__") = some true) (hm : PySem.W.mroIn K D (.type "object") = some true)
    (v : PySem.W.kitOne K (.ref D) (.type "ValueError") = some true) (p : PySem.W.kitOne K (.ref D) (.ref PE) = some true) : Exn K D PE :=
  ⟨x, k, b, t, PySem.W.exm_ref h1 h2 h3 s, ⟨hg, hk, b, hd, ha, hn, ht, hm⟩, v, p⟩
/-- of a table of classes just the j-th is that of an error of the class D -/
def Kinds (K : PySem.W.Frag) (D : Addr) (tab : List Addr) (j : Nat) : Prop := ∀ (i : Nat) (C : Addr), tab[i]? = some C → PySem.W.kitOne K (.ref D) (.ref C) = some (decide (i = j))
theorem kinds_nil {K : PySem.W.Frag} {D : Addr} {n j : Nat} : ∀ (i : Nat) (C : Addr), ([] : List Addr)[i]? = some C → PySem.W.kitOne K (.ref D) (.ref C) = some (decide (i + n = j)) := fun i C h => by simp at h
theorem kinds_cons {K : PySem.W.Frag} {D C0 : Addr} {tab : List Addr} {n j : Nat} (h0 : PySem.W.kitOne K (.ref D) (.ref C0) = some (decide (n = j)))
    (h : ∀ (i : Nat) (C : Addr), tab[i]? = some C → PySem.W.kitOne K (.ref D) (.ref C) = some (decide (i + (n + 1) = j))) : ∀ (i : Nat) (C : Addr), (C0 :: tab)[i]? = some C → PySem.W.kitOne K (.ref D) (.ref C) = some (decide (i + n = j))
  | 0, C, e => by
    have e' : C0 = C := Option.some.inj e
    subst e'
    rw [Nat.zero_add]
    exact h0
  | i + 1, C, e => by
    have q := h i C e
    rw [show i + 1 + n = i + (n + 1) by omega]
    exact q
theorem bits_one (n : Nat) : ∀ j, j < n → ((List.range n).map fun i => decide (i = j)).count true = 1 := by
  intro j hj
  rw [List.count_eq_countP, List.countP_map]
  have : ∀ m, (List.range m).countP ((fun x => x == true) ∘ fun i => decide (i = j)) = if j < m then 1 else 0 := fun m => by
    induction m with
    | zero => rfl
    | succ m ih =>
      rw [List.range_succ, List.countP_append, ih]
      by_cases h : j < m
      · rw [if_pos h, if_pos (by omega)]
        have : ¬ m = j := by omega
        simp [this]
      · rw [if_neg h]
        by_cases e : m = j
        · subst e; simp
        · rw [if_neg (by omega)]
          simp [e]
  rw [this, if_pos hj]

/-! ### values as data -/
def tyName : PyData → String
  | .none => "NoneType" | .bool _ => "bool" | .int _ => "int" | .str _ => "str" | .list _ => "list" | .tuple _ => "tuple" | .dict _ => "dict"
theorem dp_ty {K : PySem.W.Frag} {H : Hp} {x : V} {d : PyData} (h : Dp K H x d) : TyX K H x (.type (tyName d)) := by
  cases h with
  | non => exact .base .non
  | bl b => exact .base (.bl b)
  | int i => exact .base (.int i)
  | str z => exact .base (.str z)
  | lst h1 _ =>
    rcases h1 with (h1 | ⟨o, h1⟩) | ⟨o, its, n, h1, h2, _⟩
    · exact .base (.lst h1)
    · exact .base (.frz h1)
    · exact .kList h1 h2
  | tup h1 _ =>
    rcases h1 with (h1 | ⟨o, h1⟩) | ⟨o, its, n, h1, h2, _⟩
    · exact .base (.tup h1)
    · exact .fTuple h1
    · exact .kTuple h1 h2
def dStr : PyData → Bool | .str _ => true | _ => false
def dInt : PyData → Bool | .int _ => true | .bool _ => true | _ => false
def dBool : PyData → Bool | .bool _ => true | _ => false
def dTup : PyData → Bool | .tuple _ => true | _ => false
def dList : PyData → Bool | .list _ => true | _ => false
theorem tyName_mem (d : PyData) : tyName d ∈ (["NoneType", "bool", "int", "str", "list", "tuple", "dict"] : List String) := by cases d <;> simp [tyName]
theorem kitN_str : ∀ n ∈ (["NoneType", "bool", "int", "str", "list", "tuple", "dict"] : List String), kitB n "str" = some (n == "str") := by decide +kernel
theorem kit_str {K : PySem.W.Frag} (d : PyData) : PySem.W.kitOne K (.type (tyName d)) (.type "str") = some (dStr d) := by
  refine kit_ty ((kitN_str _ (tyName_mem d)).trans ?_)
  cases d <;> simp [tyName, dStr]
theorem kitN_int : ∀ n ∈ (["NoneType", "bool", "int", "str", "list", "tuple", "dict"] : List String), kitB n "int" = some (n == "int" || n == "bool") := by decide +kernel
theorem kit_int {K : PySem.W.Frag} (d : PyData) : PySem.W.kitOne K (.type (tyName d)) (.type "int") = some (dInt d) := by
  refine kit_ty ((kitN_int _ (tyName_mem d)).trans ?_)
  cases d <;> simp [tyName, dInt]
theorem kitN_bool : ∀ n ∈ (["NoneType", "bool", "int", "str", "list", "tuple", "dict"] : List String), kitB n "bool" = some (n == "bool") := by decide +kernel
theorem kit_bool {K : PySem.W.Frag} (d : PyData) : PySem.W.kitOne K (.type (tyName d)) (.type "bool") = some (dBool d) := by
  refine kit_ty ((kitN_bool _ (tyName_mem d)).trans ?_)
  cases d <;> simp [tyName, dBool]
theorem kitN_tup : ∀ n ∈ (["NoneType", "bool", "int", "str", "list", "tuple", "dict"] : List String), kitB n "tuple" = some (n == "tuple") := by decide +kernel
theorem kit_tup {K : PySem.W.Frag} (d : PyData) : PySem.W.kitOne K (.type (tyName d)) (.type "tuple") = some (dTup d) := by
  refine kit_ty ((kitN_tup _ (tyName_mem d)).trans ?_)
  cases d <;> simp [tyName, dTup]
theorem kitN_list : ∀ n ∈ (["NoneType", "bool", "int", "str", "list", "tuple", "dict"] : List String), kitB n "list" = some (n == "list") := by decide +kernel
theorem kit_list {K : PySem.W.Frag} (d : PyData) : PySem.W.kitOne K (.type (tyName d)) (.type "list") = some (dList d) := by
  refine kit_ty ((kitN_list _ (tyName_mem d)).trans ?_)
  cases d <;> simp [tyName, dList]
/-- data stand where what was tracked stands -/
theorem rd_same {H H' : Hp} {a : Addr} {u : HO} (s : Same H H') (h : Rd H a u) : Rd H' a u := by
  rcases h with h | ⟨o, h⟩
  · exact .inl (s _ _ h)
  · exact .inr ⟨o, s _ _ h⟩
mutual
theorem dp_same {K : PySem.W.Frag} {H H' : Hp} (s : Same H H') : ∀ (d : PyData) (x : V), Dp K H x d → Dp K H' x d
  | .none, _, h => by cases h; exact .non
  | .bool _, _, h => by cases h; exact .bl _
  | .int _, _, h => by cases h; exact .int _
  | .str _, _, h => by cases h; exact .str _
  | .list ds, _, h => by
    cases h with
    | lst h1 h2 => exact .lst (h1.elim (fun z => .inl (rd_same s z)) .inr) (dpAll_same s ds _ h2)
  | .tuple ds, _, h => by
    cases h with
    | tup h1 h2 => exact .tup (h1.elim (fun z => .inl (rd_same s z)) .inr) (dpAll_same s ds _ h2)
  | .dict _, _, h => by cases h
theorem dpAll_same {K : PySem.W.Frag} {H H' : Hp} (s : Same H H') : ∀ (ds : List PyData) (xs : List V), DpAll K H xs ds → DpAll K H' xs ds
  | [], _, h => by cases h; exact .nil
  | d :: ds, _, h => by
    cases h with
    | cons h1 h2 => exact .cons (dp_same s d _ h1) (dpAll_same s ds _ h2)
end
/-- what may be shown -/
structure Shows (d : PyData) : Prop where
  ok : d.showable = true
  dp : d.depth ≤ 64
  sz : d.shown.length ≤ sizeLine
theorem shows_int {i : Int} (h : i.natAbs.log2 < 1920) : Shows (.int i) := ⟨decide_eq_true h, (by simp [PyData.depth]), int_text_fits h⟩
theorem log2_of {i : Int} {k : Nat} (h : i.natAbs < 2 ^ k) (hk : k ≤ 1920) (h0 : 0 < k) : i.natAbs.log2 < 1920 := by
  by_cases hz : i.natAbs = 0
  · rw [hz]; decide
  · exact Nat.lt_of_lt_of_le ((Nat.log2_lt hz).mpr h) hk
theorem eqv_of_ne : True := trivial

/-! ### standard words -/
def smallL : List Nat := [97, 98, 99, 100, 101, 102, 103, 104, 105, 106, 107, 108, 109, 110, 111, 112, 113, 114, 115, 116, 117, 118, 119, 120, 121, 122]
theorem smallS : (("abcdefghijklmnopqrstuvwxyz" : String) : Str) = S smallL := by decide +kernel
theorem small_at {k : Nat} (h : k < 26) : smallL[k]? = some (97 + k) := by
  have : ∀ j : Fin 26, smallL[j.val]? = some (97 + j.val) := by decide
  exact this ⟨k, h⟩
def stdL : Nat → List Nat
  | 0 => []
  | n + 1 => stdL n ++ [97 + n] ++ stdL n
theorem std_len : ∀ n, (stdL n).length + 1 = 2 ^ n
  | 0 => rfl
  | n + 1 => by
    have ih := std_len n
    rw [stdL, List.length_append, List.length_append, Nat.pow_succ]
    show (stdL n).length + 1 + (stdL n).length + 1 = _
    omega
/-- the exponent of 2 -/
def v2 (n : Nat) : Nat := if h : n = 0 ∨ n % 2 = 1 then 0 else v2 (n / 2) + 1
termination_by n
decreasing_by omega
theorem v2_odd {n : Nat} (h : n % 2 = 1) : v2 n = 0 := by
  rw [v2, dif_pos (.inr h)]
theorem v2_even {n : Nat} (h0 : 0 < n) (h : n % 2 = 0) : v2 n = v2 (n / 2) + 1 := by
  rw [v2, dif_neg (by omega)]
theorem v2_pow : ∀ k, v2 (2 ^ k) = k
  | 0 => v2_odd rfl
  | k + 1 => by
    have hp : 0 < 2 ^ (k + 1) := Nat.two_pow_pos _
    have e : 2 ^ (k + 1) / 2 = 2 ^ k := by rw [Nat.pow_succ]; omega
    rw [v2_even hp (by rw [Nat.pow_succ]; omega), e, v2_pow k]
theorem v2_sub : ∀ (k m : Nat), 2 ^ k < m → m < 2 ^ (k + 1) → v2 (m - 2 ^ k) = v2 m
  | 0, m, h1, h2 => by simp at h1 h2; omega
  | k + 1, m, h1, h2 => by
    rw [Nat.pow_succ] at h1 h2 ⊢
    rw [Nat.pow_succ] at h2
    by_cases ho : m % 2 = 1
    · rw [v2_odd ho, v2_odd (by omega)]
    · rw [v2_even (by omega) (show m % 2 = 0 by omega), v2_even (by omega) (by omega)]
      have e : (m - 2 ^ k * 2) / 2 = m / 2 - 2 ^ k := by omega
      rw [e, v2_sub k (m / 2) (by omega) (by rw [Nat.pow_succ]; omega)]
theorem v2_lt {k m : Nat} (h0 : 0 < m) (h : m < 2 ^ k) : v2 m < k := by
  induction k generalizing m with
  | zero => simp at h; omega
  | succ k ih =>
    by_cases ho : m % 2 = 1
    · rw [v2_odd ho]; omega
    · rw [v2_even h0 (by omega)]
      have := ih (m := m / 2) (by omega) (by rw [Nat.pow_succ] at h; omega)
      omega
theorem std_at : ∀ (n i : Nat), i + 1 < 2 ^ n → (stdL n)[i]? = some (97 + v2 (i + 1))
  | 0, i, h => by simp at h
  | n + 1, i, h => by
    have hl := std_len n
    rw [stdL]
    by_cases h1 : i + 1 < 2 ^ n
    · rw [List.getElem?_append_left (by rw [List.length_append]; show i < _ + 1; omega), List.getElem?_append_left (by omega)]
      exact std_at n i h1
    · by_cases h2 : i + 1 = 2 ^ n
      · rw [List.getElem?_append_left (by rw [List.length_append]; show i < _ + 1; omega), List.getElem?_append_right (by omega), show i - (stdL n).length = 0 by omega, h2, v2_pow]
        rfl
      · rw [List.getElem?_append_right (by rw [List.length_append]; show _ + 1 ≤ i; omega), List.length_append]
        show (stdL n)[i - ((stdL n).length + 1)]? = _
        rw [std_at n _ (by rw [Nat.pow_succ] at h; omega), ← v2_sub n (i + 1) (by omega) h]
        congr 3
        omega
theorem std_take {n m : Nat} (h : m + 1 ≤ 2 ^ n) : (stdL n).take m = (List.range m).map fun i => 97 + v2 (i + 1) := by
  refine List.ext_getElem? fun i => ?_
  rw [List.getElem?_take, List.getElem?_map]
  by_cases hi : i < m
  · rw [if_pos hi, std_at n i (by omega), List.getElem?_range hi]
    rfl
  · rw [if_neg hi, List.getElem?_eq_none (by rw [List.length_range]; omega)]
    rfl
/-- is it an integer of the range -/
def inRange (d : PyData) (lo hi : Int) : Bool := match d with
  | .int i => decide (lo ≤ i) && decide (i ≤ hi)
  | _ => false

/-! ### words and assignments as data -/
def strOf : PyData → List Nat | .str z => z.cps.toList | _ => []
theorem str_eta (z : Str) : S z.cps.toList = z := rfl
def patD (d : PyData) : Bool := dStr d && patB (strOf d)
def wordD (d : PyData) : Bool := dStr d && (decide ((strOf d).length ≤ 200) && allIn (strOf d) smallL)
def asgD (l : List Nat) : PyData → Bool
  | .tuple ds => decide (ds.length = (dist l).length) && ds.all fun d => wordD d && decide (strOf d ≠ [])
  | _ => false
def asgW : PyData → List (List Nat) | .tuple ds => ds.map strOf | _ => []
def valL (l : List Nat) (ws : List (List Nat)) : List Nat := (l.map fun c => ws[(dist l).idxOf c]?.getD []).flatten
/-! sizes -/
structure Lite (D k : Nat) (d : PyData) : Prop where
  c : d.canLay0 = true
  dp : d.depth ≤ D
  w : d.weight ≤ k
  s : d.leavesShort 70 = true
  sh : d.showable = true
theorem Lite.mono {D D' k k' : Nat} {d : PyData} (h : Lite D k d) (h1 : D ≤ D') (h2 : k ≤ k') : Lite D' k' d := ⟨h.c, Nat.le_trans h.dp h1, Nat.le_trans h.w h2, h.s, h.sh⟩
def liteB (D k : Nat) (d : PyData) : Bool := d.canLay0 && (decide (d.depth ≤ D) && (decide (d.weight ≤ k) && (d.leavesShort 70 && d.showable)))
theorem lite_of {D k : Nat} {d : PyData} (h : liteB D k d = true) : Lite D k d := by
  unfold liteB at h
  rw [Bool.and_eq_true, Bool.and_eq_true, Bool.and_eq_true, Bool.and_eq_true, decide_eq_true_eq, decide_eq_true_eq] at h
  exact ⟨h.1, h.2.1, h.2.2.1, h.2.2.2.1, h.2.2.2.2⟩
theorem Lite.shows {D k : Nat} {d : PyData} (h : Lite D k d) (h1 : D ≤ 64) (h2 : k ≤ 200000) : Shows d := by
  refine ⟨h.sh, Nat.le_trans h.dp h1, ?_⟩
  have e := PyData.shown_le 70 (by decide) d h.s
  have e2 : (70 + 2) * d.weight ≤ (70 + 2) * 200000 := Nat.mul_le_mul_left _ (Nat.le_trans h.w h2)
  rw [sizeLine_eq]
  omega
theorem Lite.len {D k : Nat} {z : Str} (h : Lite D k (.str z)) : z.cps.toList.length ≤ k := by
  have := h.w
  simp only [PyData.weight] at this
  simpa using this
theorem lite_str {D k : Nat} {l : List Nat} (hl : l.length ≤ k) (h : ∀ c ∈ l, c < 0x110000) : Lite D k (.str (S l)) := by
  refine ⟨?_, Nat.zero_le _, ?_, ?_, rfl⟩
  · simp only [PyData.canLay0, PyData.strOk]
    refine Array.all_eq_true_iff_forall_mem.mpr fun c hc => decide_eq_true (h c ?_)
    simpa [S] using hc
  · simp only [PyData.weight]
    simpa [S] using hl
  · simp only [PyData.leavesShort]
    refine List.all_eq_true.mpr fun c hc => decide_eq_true ?_
    have := h c (by simpa [S] using hc)
    have e : (16 : Nat) ^ 8 = 4294967296 := by decide
    omega
theorem liteAll {D k : Nat} : ∀ {ds : List PyData}, (∀ d ∈ ds, Lite D k d) → PyData.canLayAll0 ds = true ∧ PyData.depthAll ds ≤ D ∧ PyData.weightAll ds ≤ ds.length * (k + 1) ∧ PyData.leavesShortAll 70 ds = true ∧ PyData.showableAll ds = true
  | [], _ => ⟨rfl, Nat.zero_le _, Nat.zero_le _, rfl, rfl⟩
  | d :: r, h => by
    have h1 := h d List.mem_cons_self
    obtain ⟨a, b, c, e, f⟩ := liteAll fun x hx => h x (List.mem_cons_of_mem _ hx)
    refine ⟨?_, ?_, ?_, ?_, ?_⟩
    · simp only [PyData.canLayAll0, h1.c, a, Bool.and_self]
    · simp only [PyData.depthAll]
      exact Nat.max_le.mpr ⟨h1.dp, b⟩
    · simp only [PyData.weightAll, List.length_cons, Nat.succ_mul]
      have := h1.w
      omega
    · simp only [PyData.leavesShortAll, h1.s, e, Bool.and_self]
    · simp only [PyData.showableAll, h1.sh, f, Bool.and_self]
theorem lite_tup {D k m : Nat} {ds : List PyData} (h : ∀ d ∈ ds, Lite D k d) (hm : ds.length * (k + 1) ≤ m) : Lite (D + 1) m (.tuple ds) := by
  obtain ⟨a, b, c, e, f⟩ := liteAll h
  exact ⟨by simpa only [PyData.canLay0] using a, by simp only [PyData.depth]; omega, by simp only [PyData.weight]; omega, by simpa only [PyData.leavesShort] using e, by simpa only [PyData.showable] using f⟩
theorem lite_lst {D k m : Nat} {ds : List PyData} (h : ∀ d ∈ ds, Lite D k d) (hm : ds.length * (k + 1) ≤ m) : Lite (D + 1) m (.list ds) := by
  obtain ⟨a, b, c, e, f⟩ := liteAll h
  exact ⟨by simpa only [PyData.canLay0] using a, by simp only [PyData.depth]; omega, by simp only [PyData.weight]; omega, by simpa only [PyData.leavesShort] using e, by simpa only [PyData.showable] using f⟩
/-! data and heaps -/
/-- the heap without what stands at p -/
def off (p : Addr) (H : Hp) : Hp := fun b => if b = p then none else H b
theorem off_same (p : Addr) (H : Hp) : Same (off p H) H := fun b o h => by
  unfold off at h
  by_cases e : b = p
  · rw [if_pos e] at h; cases h
  · rw [if_neg e] at h; exact h
theorem But.off {p : Addr} {H H' : Hp} (h : But p H H') : Same (off p H) (off p H') := fun b o e => by
  unfold Lw.off at e ⊢
  by_cases q : b = p
  · rw [if_pos q] at e; cases e
  · rw [if_neg q] at e ⊢; exact h b o q e
theorem off_at {p b : Addr} {H : Hp} {o : HO} (n : b ≠ p) (h : H b = some o) : off p H b = some o := by
  unfold off
  rw [if_neg n]
  exact h
theorem dpAll_len {K : PySem.W.Frag} {H : Hp} : ∀ {xs : List V} {ds : List PyData}, DpAll K H xs ds → xs.length = ds.length
  | _, _, .nil => rfl
  | _, _, .cons _ r => by rw [List.length_cons, List.length_cons, dpAll_len r]
theorem dpAll_at {K : PySem.W.Frag} {H : Hp} : ∀ {xs : List V} {ds : List PyData} (_ : DpAll K H xs ds) {i : Nat} {x : V}, xs[i]? = some x → ∃ d, ds[i]? = some d ∧ Dp K H x d
  | _, _, .cons h _, 0, x, e => ⟨_, rfl, by cases e; exact h⟩
  | _, _, .cons _ r, i + 1, x, e => dpAll_at r (i := i) e
theorem dpAll_app {K : PySem.W.Frag} {H : Hp} : ∀ {xs ys : List V} {ds es : List PyData}, DpAll K H xs ds → DpAll K H ys es → DpAll K H (xs ++ ys) (ds ++ es)
  | _, _, _, _, .nil, h => h
  | _, _, _, _, .cons a r, h => .cons a (dpAll_app r h)
def vW (w : List Nat) : V := .str (S w)
def dW (w : List Nat) : PyData := .str (S w)
theorem dpAll_words {K : PySem.W.Frag} {H : Hp} : ∀ ws : List (List Nat), DpAll K H (ws.map vW) (ws.map dW)
  | [] => .nil
  | w :: r => .cons (.str _) (dpAll_words r)
def dataW (ws : List (List Nat)) : PyData := .tuple (ws.map dW)
theorem dp_words {K : PySem.W.Frag} {H : Hp} {a : Addr} {ws : List (List Nat)} (h : SqT K H a (ws.map vW)) : Dp K H (.ref a) (dataW ws) := .tup h (dpAll_words ws)
theorem strOf_dW (w : List Nat) : strOf (dW w) = w := rfl
theorem asgW_dataW (ws : List (List Nat)) : asgW (dataW ws) = ws := by
  show (ws.map dW).map strOf = ws
  rw [List.map_map]
  exact List.map_id' ws
/-- where all are texts -/
theorem dpAll_strs {K : PySem.W.Frag} {H : Hp} : ∀ {xs : List V} {ds : List PyData}, DpAll K H xs ds → (∀ d ∈ ds, dStr d = true) → xs = (ds.map strOf).map vW
  | _, _, .nil, _ => rfl
  | _, _, .cons (d := d) h r, hs => by
    have h1 := hs d List.mem_cons_self
    rw [List.map_cons, List.map_cons, ← dpAll_strs r fun x hx => hs x (List.mem_cons_of_mem _ hx)]
    cases h with
    | str z => rfl
    | non => cases h1
    | bl b => cases h1
    | int i => cases h1
    | lst _ _ => cases h1
    | tup _ _ => cases h1
/-! words -/
structure Wd (w : List Nat) : Prop where
  hi : w.length ≤ 200
  sm : ∀ c ∈ w, c ∈ smallL
theorem small_lt {c : Nat} (h : c ∈ smallL) : c < 0x110000 := by
  have : ∀ c ∈ smallL, c < 0x110000 := by decide
  exact this c h
theorem cap_lt {c : Nat} (h : c ∈ capL) : c < 0x110000 := by
  have : ∀ c ∈ capL, c < 0x110000 := by decide
  exact this c h
theorem wordD_dW {w : List Nat} : wordD (dW w) = true ↔ Wd w := by
  unfold wordD
  rw [Bool.and_eq_true, Bool.and_eq_true, decide_eq_true_eq, allIn_iff]
  exact ⟨fun h => ⟨h.2.1, h.2.2⟩, fun h => ⟨rfl, h.hi, h.sm⟩⟩
theorem asg_good {l : List Nat} {ws : List (List Nat)} (hn : ws.length = (dist l).length) (h : ∀ w ∈ ws, Wd w ∧ w ≠ []) : asgD l (dataW ws) = true := by
  show (decide ((ws.map dW).length = _) && (ws.map dW).all _) = true
  rw [Bool.and_eq_true, decide_eq_true_eq, List.length_map, List.all_eq_true]
  refine ⟨hn, fun d hd => ?_⟩
  obtain ⟨w, hw, rfl⟩ := List.mem_map.mp hd
  rw [Bool.and_eq_true, decide_eq_true_eq]
  exact ⟨wordD_dW.mpr (h w hw).1, (h w hw).2⟩
/-! slices and sums of tuples -/
theorem cutL_whole {α : Type} {xs : List α} {lo hi : Option Int} (h : HT.sIx xs.length 0 lo = 0 ∧ HT.sIx xs.length xs.length hi = xs.length) : cutL xs lo hi = xs := by
  unfold cutL
  rw [h.1, h.2, List.drop_zero, Nat.sub_zero, List.take_length]
theorem slA_use {K : PySem.W.Frag} {a : Addr} {xs : List V} {lo hi : Option Int} {H : Hp} {Q : VK} (h : SqT K H a xs) (q : ∀ b H', Same H H' → SqT K H' b (cutL xs lo hi) → Q (.ref b) H') : rSlA K (.ref a) lo hi H Q :=
  ⟨a, xs, rfl, h, fun w => q a H (Same.refl H) (by rw [cutL_whole w]; exact h), fun _ p hp => q p _ (Same.new hp) (by rw [cutV_L]; exact SqT.of upd_same)⟩
theorem catA_use {K : PySem.W.Frag} {a b : Addr} {xs ys : List V} {H : Hp} {Q : VK} (ha : SqT K H a xs) (hb : SqT K H b ys) (hz : xs.length + ys.length ≤ sizeLine) (q : ∀ c H', Same H H' → SqT K H' c (xs ++ ys) → Q (.ref c) H') :
    rCatA K (.ref a) (.ref b) H Q :=
  ⟨a, b, xs, ys, rfl, rfl, ha, hb, hz, fun e => q b H (Same.refl H) (by rw [e]; exact hb), fun _ e => q a H (Same.refl H) (by rw [e, List.append_nil]; exact ha), fun _ _ p hp => q p _ (Same.new hp) (SqT.of upd_same)⟩
theorem same_tup {K : PySem.W.Frag} {H H' : Hp} {a : Addr} {xs : List V} (s : Same H H') (h : SqT K H a xs) : SqT K H' a xs := h.elim (fun z => .inl (rd_same s z)) .inr
theorem same_lst {K : PySem.W.Frag} {H H' : Hp} {a : Addr} {xs : List V} (s : Same H H') (h : SqL K H a xs) : SqL K H' a xs := h.elim (fun z => .inl (rd_same s z)) .inr
theorem cutL_neg1 {α : Type} (xs : List α) : cutL xs none (some (-1)) = xs.take (xs.length - 1) := by
  have e : HT.sIx xs.length xs.length (some (-1)) = xs.length - 1 := by
    show (if (-1 : Int) < 0 then ((-1 : Int) + (xs.length : Int)).toNat else min (-1 : Int).toNat xs.length) = _
    rw [if_pos (by decide)]
    omega
  unfold cutL
  rw [HT.sIx_none, List.drop_zero, Nat.sub_zero, e]
theorem offT {K : PySem.W.Frag} {H : Hp} {p b : Addr} {xs ys : List V} (h : SqT K H b xs) (hp : H p = some (.lst ys)) : SqT K (off p H) b xs := by
  rcases h with (h | ⟨o, h⟩) | h
  · exact .inl (.inl (off_at (ne_of h hp fun e => by cases e) h))
  · exact .inl (.inr ⟨o, off_at (ne_of h hp fun e => by cases e) h⟩)
  · exact .inr h
theorem Pen.offT {K : PySem.W.Frag} {H : Hp} {p c b : Addr} {n : Nat} {xs : List V} (P : Pen H p c n) (h : SqT K H b xs) : SqT K (off p H) b xs := by
  obtain ⟨ns, i, z, ⟨a1, _⟩, _⟩ := P
  exact Lw.offT h a1
/-- not the data of an assignment of n words -/
def noAsg (n : Nat) : PyData → Bool
  | .tuple ds => !(decide (ds.length = n) && ds.all fun d => wordD d && decide (strOf d ≠ []))
  | _ => true
theorem asg_no {l : List Nat} {d : PyData} (h : noAsg (dist l).length d = true) : asgD l d = false := by
  cases d with
  | tuple ds =>
    have h : (!(decide (ds.length = (dist l).length) && ds.all fun d => wordD d && decide (strOf d ≠ []))) = true := h
    show (decide (ds.length = (dist l).length) && ds.all fun d => wordD d && decide (strOf d ≠ [])) = false
    generalize (decide (ds.length = (dist l).length) && ds.all fun d => wordD d && decide (strOf d ≠ [])) = b at h
    cases b with
    | false => rfl
    | true => cases h
  | _ => rfl
theorem noAsg_len {n : Nat} {ds : List PyData} (h : ds.length ≠ n) : noAsg n (.tuple ds) = true := by
  show (!(decide (ds.length = n) && _)) = true
  rw [decide_eq_false h, Bool.false_and]
  rfl
theorem noAsg_bad {n : Nat} {ds : List PyData} {d : PyData} (hd : d ∈ ds) (h : (wordD d && decide (strOf d ≠ [])) = false) : noAsg n (.tuple ds) = true := by
  show (!(decide (ds.length = n) && ds.all fun d => wordD d && decide (strOf d ≠ []))) = true
  have : (ds.all fun d => wordD d && decide (strOf d ≠ [])) = false := by
    cases q : ds.all fun d => wordD d && decide (strOf d ≠ []) with
    | false => rfl
    | true => rw [List.all_eq_true.mp q d hd] at h; cases h
  rw [this, Bool.and_false]
  rfl
theorem lite_dW {D k : Nat} {w : List Nat} (h : Wd w) (hk : w.length ≤ k) : Lite D k (dW w) := lite_str hk fun c hc => small_lt (h.sm c hc)

/-! ### for over range(n), n of any size -/
theorem turn_long {P : Program} {w : World} {K : PySem.W.Frag} {tg : Expr} (it : Addr) (lo : Int) (n : Nat) : Turn P w K tg (Itr lo n) [it] it (fun i h => IsLongIter h it (lo + (i : Nat) * 1) ((n : Int) - (i : Nat)) 1) where
  mem := by simp
  obj := fun i h st b hb => by
    have e : b = it := by simpa using hb
    subst e
    exact ⟨_, st, fun v z => by
      have z' : Data.fields _ = Data.cell v := z
      cases z'⟩
  keep := fun i h h' st k => k it (by simp) _ st
  item := by
    intro X hP hw hK hc i pins s σ H E I hf st hg
    subst hP hw hK
    obtain ⟨f0, f1, f2, f3, f4, f5⟩ := hf it (by simp)
    have W := Walks.longrange (prog := X.prog) (w := X.w) (I.ok.hd hc) it lo 1 n
    refine W.item i s _ _ hg st fun v h' tk hv st' kk => ?_
    obtain ⟨t, rfl⟩ := hv
    have I1 : Inv X pins σ H { s with heap := h', toks := tk } := I.turned (fun b o hb e => kk b o (by simpa using hb) e) f0 f1 f3 f4 f5
    refine ⟨_, rfl, go_of (s := { s with heap := h', toks := tk }) (n := "longrange_iterator") st' rfl rfl (by decide) ⟨.int (lo + i), H, I1, ⟨t, ?_⟩, ⟨rfl, rfl⟩, st', fun b hb => (hf b hb).1⟩⟩
    rw [Int.mul_one]
  done := by
    intro X hP hw hK hc i pins s σ H E I hf st hg
    subst hP hw hK
    obtain ⟨f0, f1, f2, f3, f4, f5⟩ := hf it (by simp)
    exact wpAny_pyNext_long_end (I.ok.hd hc) st (by have : n ≤ i := hg; omega) fun h' eb => ⟨rfl, I.turned (t' := s.toks) (fun b o hb e => eb b o hb e) f0 f1 f3 f4 f5⟩
  self := fun _ _ _ _ _ st h => wpAny_pyIter_longiter st h
theorem range_itL {X : Cx} {tg : Expr} {pins : List (Addr × Obj)} {σ : L2.St} {H : Hp} {s : Shared} {R : It → Hp → Prop} {E : Value → Shared → Prop} {lo hi : Int} {t u v : Tok} {tk : Nat} (I : Inv X pins σ H s)
    (q : R (Itr lo (hi - lo).toNat) H) : wpAny (model X.prog X.w) X.A (pyIter (.ref s.heap.objs.size)) (PIE X pins σ tg R) E { s with heap := s.heap.push { cls := .type "range", data := .fields #[.int lo t, .int hi u, .int 1 v] }, toks := tk } := by
  have e1 : lo + ((0 : Nat) : Int) * 1 = lo := by simp
  have e2 : (((hi - lo).toNat : Nat) : Int) - ((0 : Nat) : Int) = Builtin.Range.rangeSize lo hi 1 := by rw [rangeSize_one]; split <;> omega
  have I1 : Inv X pins σ H { s with heap := s.heap.push { cls := .type "range", data := .fields #[.int lo t, .int hi u, .int 1 v] }, toks := tk } := I.kept fun b o e => Heap.get?_push_of_some _ e
  cases hsm : Builtin.Range.small lo hi 1 with
  | true =>
    refine wpAny_pyIter_range (IsRange.new ..) hsm ?_
    refine ⟨(s.heap.push { cls := .type "range", data := .fields #[.int lo t, .int hi u, .int 1 v] }).objs.size, [(s.heap.push { cls := .type "range", data := .fields #[.int lo t, .int hi u, .int 1 v] }).objs.size], _, _, H, rfl,
      I1.kept (t' := tk) fun b o e => Heap.get?_push_of_some _ e, turn_range _ lo (hi - lo).toNat, ?_, fun b hb => ?_, q⟩
    · show IsRangeIter _ _ (lo + ((0 : Nat) : Int) * 1) ((((hi - lo).toNat : Nat) : Int) - ((0 : Nat) : Int)) 1
      rw [e1, e2]
      exact Heap.get?_push_size _ rfl
    · have e : b = (s.heap.push { cls := .type "range", data := .fields #[.int lo t, .int hi u, .int 1 v] }).objs.size := by simpa using hb
      subst e
      exact I1.fpOk (Nat.le_refl _) (I1.hok.fresh (Nat.le_refl _))
  | false =>
    refine wpAny_pyIter_longrange (IsRange.new ..) hsm ?_
    refine ⟨(s.heap.push { cls := .type "range", data := .fields #[.int lo t, .int hi u, .int 1 v] }).objs.size, [(s.heap.push { cls := .type "range", data := .fields #[.int lo t, .int hi u, .int 1 v] }).objs.size], _, _, H, rfl,
      I1.kept (t' := tk) fun b o e => Heap.get?_push_of_some _ e, turn_long _ lo (hi - lo).toNat, ?_, fun b hb => ?_, q⟩
    · show IsLongIter _ _ (lo + ((0 : Nat) : Int) * 1) ((((hi - lo).toNat : Nat) : Int) - ((0 : Nat) : Int)) 1
      rw [e1, e2]
      exact Heap.get?_push_size _ rfl
    · have e : b = (s.heap.push { cls := .type "range", data := .fields #[.int lo t, .int hi u, .int 1 v] }).objs.size := by simpa using hb
      subst e
      exact I1.fpOk (Nat.le_refl _) (I1.hok.fresh (Nat.le_refl _))
def iRngL (ta : TA) : TI := fun σ H R => ta σ H fun vs H1 => ∃ j : Int, vs = [.int j] ∧ R (Itr 0 j.toNat) H1
theorem pi_rangeL {X : Cx} {tg : Expr} {a : Expr} {ta : TA} {p pos : Pos} (hg : Gl X "range") (hm : X.mg "range" = none) (ha : PA X [a] ta) (hs : starEach [a] X.env = [(false, eval a X.env)] := by rfl) : PI X tg (.Call (.Name "range" p) [a] [] pos) (iRngL ta) := by
  refine ⟨fun pins s σ H R I h => ?_⟩
  refine Call_ (ld_blt I hg hm boot_range (PyProof.Rows.callWith_type1 (thn (ha.run pos pins s σ H _ I h) fun us s1 ⟨vs, H1, I1, r1, q1⟩ => ?_) hs rfl))
  obtain ⟨j, e, q⟩ := q1
  subst e
  cases r1 with
  | cons r rr =>
    cases rr
    obtain ⟨t, rfl⟩ := r
    exact call_range_1 (range_itL I1 (by simpa using q))

/-! ### the text by places -/
def topS (i : Nat) : Stmt := PySem.Challenge.pw_surepatterns_k45_sure_lengths.main.body.getD i (.Pass ⟨0, 0, 0, 0⟩)
abbrev s_law_open : Stmt := topS 24
theorem sc_law_open : FnScope ["script", "cells", "k", "cell"] ["script"] (defScope s_law_open) := ⟨rfl, rfl, rfl, by decide +kernel, rfl, by decide +kernel, by decide +kernel⟩
abbrev s_law_anew : Stmt := topS 25
theorem sc_law_anew : FnScope ["pen"] ["pen"] (defScope s_law_anew) := ⟨rfl, rfl, rfl, by decide +kernel, rfl, by decide +kernel, by decide +kernel⟩
abbrev s_law_spread : Stmt := topS 23
theorem sc_law_spread : FnScope ["cell", "at", "primes", "mixed", "one", "two", "three"] ["cell", "at"] (defScope s_law_spread) := ⟨rfl, rfl, rfl, by decide +kernel, rfl, by decide +kernel, by decide +kernel⟩
abbrev s_law_take : Stmt := topS 26
theorem sc_law_take : FnScope ["pen", "many", "at", "cell", "found"] ["pen", "many"] (defScope s_law_take) := ⟨rfl, rfl, rfl, by decide +kernel, rfl, by decide +kernel, by decide +kernel⟩
abbrev s_law_one : Stmt := topS 27
theorem sc_law_one : FnScope ["pen", "some"] ["pen", "some"] (defScope s_law_one) := ⟨rfl, rfl, rfl, by decide +kernel, rfl, by decide +kernel, by decide +kernel⟩
abbrev s_is_integer : Stmt := topS 12
theorem sc_is_integer : FnScope ["value"] ["value"] (defScope s_is_integer) := ⟨rfl, rfl, rfl, by decide +kernel, rfl, by decide +kernel, by decide +kernel⟩
abbrev s_is_integer_from : Stmt := topS 13
theorem sc_is_integer_from : FnScope ["value", "low", "high"] ["value", "low", "high"] (defScope s_is_integer_from) := ⟨rfl, rfl, rfl, by decide +kernel, rfl, by decide +kernel, by decide +kernel⟩
abbrev s_need_integer : Stmt := topS 14
theorem sc_need_integer : FnScope ["value", "low", "high"] ["value", "low", "high"] (defScope s_need_integer) := ⟨rfl, rfl, rfl, by decide +kernel, rfl, by decide +kernel, by decide +kernel⟩
abbrev s_power : Stmt := topS 20
theorem sc_power : FnScope ["base", "exponent", "power", "_"] ["base", "exponent"] (defScope s_power) := ⟨rfl, rfl, rfl, by decide +kernel, rfl, by decide +kernel, by decide +kernel⟩
abbrev s_has_too_many_digits : Stmt := topS 21
theorem sc_has_too_many_digits : FnScope ["number", "digits", "rest"] ["number"] (defScope s_has_too_many_digits) := ⟨rfl, rfl, rfl, by decide +kernel, rfl, by decide +kernel, by decide +kernel⟩
abbrev s_sure_length : Stmt := topS 19
theorem sc_sure_length : FnScope ["number", "letters", "length", "_"] ["number", "letters"] (defScope s_sure_length) := ⟨rfl, rfl, rfl, by decide +kernel, rfl, by decide +kernel, by decide +kernel⟩
abbrev s_law_error : Stmt := topS 29
theorem sc_law_error : FnScope ["caught", "some", "names"] ["caught"] (defScope s_law_error) := ⟨rfl, rfl, rfl, by decide +kernel, rfl, by decide +kernel, by decide +kernel⟩
abbrev s_law_told : Stmt := topS 30
theorem sc_law_told : FnScope ["number", "letters", "caught", "found", "kept", "e"] ["number", "letters"] (defScope s_law_told) := ⟨rfl, rfl, rfl, by decide +kernel, rfl, by decide +kernel, by decide +kernel⟩
abbrev s_law_due : Stmt := topS 31
theorem sc_law_due : FnScope ["number", "letters", "limit", "length", "step", "blocks", "k"] ["number", "letters", "limit"] (defScope s_law_due) := ⟨rfl, rfl, rfl, by decide +kernel, rfl, by decide +kernel, by decide +kernel⟩
abbrev s_law : Stmt := topS 32
theorem sc_law : FnScope ["script", "pen", "limit", "step", "turn", "number", "letters", "bad", "good", "some"] ["script"] (defScope s_law) := ⟨rfl, rfl, rfl, by decide +kernel, rfl, by decide +kernel, by decide +kernel⟩
structure Ad where
  (f_law_open : Addr) (d_law_open : FuncData)
  (f_law_anew : Addr) (d_law_anew : FuncData)
  (f_law_spread : Addr) (d_law_spread : FuncData)
  (f_law_take : Addr) (d_law_take : FuncData)
  (f_law_one : Addr) (d_law_one : FuncData)
  (f_is_integer : Addr) (d_is_integer : FuncData)
  (f_is_integer_from : Addr) (d_is_integer_from : FuncData)
  (f_need_integer : Addr) (d_need_integer : FuncData)
  (f_power : Addr) (d_power : FuncData)
  (f_has_too_many_digits : Addr) (d_has_too_many_digits : FuncData)
  (f_sure_length : Addr) (d_sure_length : FuncData)
  (f_law_error : Addr) (d_law_error : FuncData)
  (f_law_told : Addr) (d_law_told : FuncData)
  (f_law_due : Addr) (d_law_due : FuncData)
  (f_law : Addr) (d_law : FuncData)
  (t_LAST_NUMBER : Tok)
  (t_MOST_DIGITS : Tok)
  (t_MOST_LETTERS : Tok)
  (c_InvalidChain : Addr)
  (c_InvalidLetters : Addr)
  (c_InvalidNumber : Addr)
  (c_InvalidPattern : Addr)
  (c_InvalidWord : Addr)
  (c_NotSure : Addr)
  (c_PatternError : Addr)
  (c_TooLarge : Addr)
  (c_TooLong : Addr)
  (c_TooShort : Addr)
/-- what the top has written -/
structure Txt (K : PySem.W.Frag) (mg : Str → Option Value) (A : Ad) : Prop where
  F_law_open : Fun K "_law_open" "_law_open" s_law_open A.f_law_open A.d_law_open
  g_law_open : mg "_law_open" = some (.ref A.f_law_open)
  b_law_open : Binds K A.d_law_open ["script"] []
  F_law_anew : Fun K "_law_anew" "_law_anew" s_law_anew A.f_law_anew A.d_law_anew
  g_law_anew : mg "_law_anew" = some (.ref A.f_law_anew)
  b_law_anew : Binds K A.d_law_anew ["pen"] []
  F_law_spread : Fun K "_law_spread" "_law_spread" s_law_spread A.f_law_spread A.d_law_spread
  g_law_spread : mg "_law_spread" = some (.ref A.f_law_spread)
  b_law_spread : Binds K A.d_law_spread ["cell", "at"] []
  F_law_take : Fun K "_law_take" "_law_take" s_law_take A.f_law_take A.d_law_take
  g_law_take : mg "_law_take" = some (.ref A.f_law_take)
  b_law_take : Binds K A.d_law_take ["pen", "many"] []
  F_law_one : Fun K "_law_one" "_law_one" s_law_one A.f_law_one A.d_law_one
  g_law_one : mg "_law_one" = some (.ref A.f_law_one)
  b_law_one : Binds K A.d_law_one ["pen", "some"] []
  F_is_integer : Fun K "is_integer" "is_integer" s_is_integer A.f_is_integer A.d_is_integer
  g_is_integer : mg "is_integer" = some (.ref A.f_is_integer)
  b_is_integer : Binds K A.d_is_integer ["value"] []
  F_is_integer_from : Fun K "is_integer_from" "is_integer_from" s_is_integer_from A.f_is_integer_from A.d_is_integer_from
  g_is_integer_from : mg "is_integer_from" = some (.ref A.f_is_integer_from)
  b_is_integer_from : Binds K A.d_is_integer_from ["value", "low", "high"] []
  F_need_integer : Fun K "need_integer" "need_integer" s_need_integer A.f_need_integer A.d_need_integer
  g_need_integer : mg "need_integer" = some (.ref A.f_need_integer)
  b_need_integer : Binds K A.d_need_integer ["value", "low", "high"] []
  F_power : Fun K "_power" "_power" s_power A.f_power A.d_power
  g_power : mg "_power" = some (.ref A.f_power)
  b_power : Binds K A.d_power ["base", "exponent"] []
  F_has_too_many_digits : Fun K "_has_too_many_digits" "_has_too_many_digits" s_has_too_many_digits A.f_has_too_many_digits A.d_has_too_many_digits
  g_has_too_many_digits : mg "_has_too_many_digits" = some (.ref A.f_has_too_many_digits)
  b_has_too_many_digits : Binds K A.d_has_too_many_digits ["number"] []
  F_sure_length : Fun K "sure_length" "sure_length" s_sure_length A.f_sure_length A.d_sure_length
  g_sure_length : mg "sure_length" = some (.ref A.f_sure_length)
  b_sure_length : Binds K A.d_sure_length ["number", "letters"] []
  F_law_error : Fun K "_law_error" "_law_error" s_law_error A.f_law_error A.d_law_error
  g_law_error : mg "_law_error" = some (.ref A.f_law_error)
  b_law_error : Binds K A.d_law_error ["caught"] []
  F_law_told : Fun K "_law_told" "_law_told" s_law_told A.f_law_told A.d_law_told
  g_law_told : mg "_law_told" = some (.ref A.f_law_told)
  b_law_told : Binds K A.d_law_told ["number", "letters"] []
  F_law_due : Fun K "_law_due" "_law_due" s_law_due A.f_law_due A.d_law_due
  g_law_due : mg "_law_due" = some (.ref A.f_law_due)
  b_law_due : Binds K A.d_law_due ["number", "letters", "limit"] []
  F_law : Fun K "law" "law" s_law A.f_law A.d_law
  g_law : mg "law" = some (.ref A.f_law)
  b_law : Binds K A.d_law ["script"] []
  g_LAST_NUMBER : mg "LAST_NUMBER" = some (.int 10 A.t_LAST_NUMBER)
  g_MOST_DIGITS : mg "MOST_DIGITS" = some (.int 1000 A.t_MOST_DIGITS)
  g_MOST_LETTERS : mg "MOST_LETTERS" = some (.int 26 A.t_MOST_LETTERS)
  ValueError : mg "ValueError" = none
  bool : mg "bool" = none
  enumerate : mg "enumerate" = none
  int : mg "int" = none
  isinstance : mg "isinstance" = none
  len : mg "len" = none
  list : mg "list" = none
  range : mg "range" = none
  repr : mg "repr" = none
  g_InvalidChain : mg "InvalidChain" = some (.ref A.c_InvalidChain)
  g_InvalidLetters : mg "InvalidLetters" = some (.ref A.c_InvalidLetters)
  g_InvalidNumber : mg "InvalidNumber" = some (.ref A.c_InvalidNumber)
  x_InvalidNumber : Exn K A.c_InvalidNumber A.c_PatternError
  q_InvalidNumber : Kinds K A.c_InvalidNumber [A.c_InvalidPattern, A.c_InvalidLetters, A.c_InvalidWord, A.c_InvalidNumber, A.c_InvalidChain, A.c_NotSure, A.c_TooShort, A.c_TooLarge, A.c_TooLong] 3
  g_InvalidPattern : mg "InvalidPattern" = some (.ref A.c_InvalidPattern)
  g_InvalidWord : mg "InvalidWord" = some (.ref A.c_InvalidWord)
  g_NotSure : mg "NotSure" = some (.ref A.c_NotSure)
  g_PatternError : mg "PatternError" = some (.ref A.c_PatternError)
  g_TooLarge : mg "TooLarge" = some (.ref A.c_TooLarge)
  x_TooLarge : Exn K A.c_TooLarge A.c_PatternError
  q_TooLarge : Kinds K A.c_TooLarge [A.c_InvalidPattern, A.c_InvalidLetters, A.c_InvalidWord, A.c_InvalidNumber, A.c_InvalidChain, A.c_NotSure, A.c_TooShort, A.c_TooLarge, A.c_TooLong] 7
  g_TooLong : mg "TooLong" = some (.ref A.c_TooLong)
  g_TooShort : mg "TooShort" = some (.ref A.c_TooShort)
def spTop (K : PySem.W.Frag) : Sp := fun vs H Q _ => ∃ (a : Addr) (ns : List Int), vs = [.ref a] ∧ SqL K H a (ns.map V.int) ∧ ns.length ≤ 63 ∧ ∀ H', Q (.bl true) H'

section
variable {P : Program} {w : World} {K : PySem.W.Frag} {mg : Str → Option Value} {base : Heap} {A : Ad}

/-! ### _law_open -/
def sp_law_open (K : PySem.W.Frag) : Sp := fun vs H Q _ => ∃ (a : Addr) (ns : List Int), vs = [.ref a] ∧ SqL K H a (ns.map V.int) ∧ ns.length ≤ 63 ∧ ∀ p c H', Same H H' → H p = none → H c = none → Pen H' p c 0 → Q (.ref p) H'
theorem ok_law_open (T : Txt K mg A) : FnOk P w K mg base CX0 1 A.f_law_open A.d_law_open ["script"] (sp_law_open K) := by
  refine T.F_law_open.ok sc_law_open (fun vs H Q E h => ?_) (fun cdv A' outer s H vs Q E hr h => ?_)
  · obtain ⟨a, ns, rfl, _⟩ := h
    rfl
  · obtain ⟨a, ns, rfl, hS, hl, k⟩ := h
    refine ⟨_, (pss_cons (ps_set (i := 1) sc_law_open.nd rfl (by first | exact Or.inl rfl | exact Or.inr rfl) (pe_callTy (call_listK (K := K)) (by rfl) T.list (by decide +kernel) (pa_cons (pe_slice (sl_listK (K := K)) (pv 0) po_none (po_some pe_int)) pa_nil)))
  (pss_cons (ps_for PassesOwn.never rfl (pi_enum (by rfl) T.enumerate (pa_cons (pe_slice (sl_listK (K := K)) (pv 0) (po_some pe_int) (po_some pe_int)) pa_nil)) (pg_tup (by rfl) (pgs_cons (pg_name (i := 2) sc_law_open.nd rfl (by first | exact Or.inl rfl | exact Or.inr rfl)) (pgs_cons (pg_name (i := 3) sc_law_open.nd rfl (by first | exact Or.inl rfl | exact Or.inr rfl)) pgs_nil))) (pss_one (ps_asg (pe_op op_add (pe_ix (ix_listK (K := K)) (pv 1) (pe_op op_mod (pv 2) pe_int) (fun _ _ => rfl)) (pv 3)) (pg_sub (pv 1) (pe_op op_mod (pv 2) pe_int) set_list))))
  (pss_one (ps_ret (pe_lst (pa_cons (pv 1) (pa_cons pe_int (pa_cons pe_int pa_nil)))))))), ?_⟩
    -- cells = list(script[:12])
    refine ⟨_, rfl, 12, rfl, a, _, rfl, hS, ?_⟩
    walk_at "n1"
    refine ⟨l1, _, rfl, .inl (SqL.of e1), ?_⟩
    walk_at "n2"
    -- enumerate(script[12:63])
    refine ⟨_, rfl, 12, rfl, 63, rfl, a, _, rfl, S2.seq (S1.seq hS), ?_⟩
    walk_at "n3"
    have q1 : cutV (ns.map V.int) none (some 12) = (ns.take 12).map V.int := by rw [cutV_L, cutL_map]; exact congrArg _ (cutL_pre ns 12)
    have q2 : cutV (ns.map V.int) (some 12) (some 63) = ((ns.take 63).drop 12).map V.int := by rw [cutV_L, cutL_map]; exact congrArg _ (cutL_mid ns 12 63)
    rw [q1] at e1 e2
    rw [q2] at e3
    have m2 : H l2 = none := S1.free n2
    have m3 : H l3 = none := S1.free (S2.free n3)
    have n23 : l2 ≠ l3 := ne_of_none e2 n3
    refine ⟨l3, _, rfl, SqL.of e3, for_it (walk_enum (xs := ((ns.take 63).drop 12).map V.int)) (fun i σ H' => ∃ y2 y3, σ = [some (.ref a), some (.ref l2), y2, y3] ∧ Same H H' ∧ H' l3 = some (.lst (((ns.take 63).drop 12).map V.int)) ∧
      ∃ cs : List Int, H' l2 = some (.lst (cs.map V.int)) ∧ cs.length = min 12 ns.length) ⟨none, none, rfl, (S1.trans S2).trans S3, e3, ns.take 12, S3 _ _ e2, by rw [List.length_take]⟩ ?_ ?_ ?_⟩
    · rintro i σ H' _ ⟨_, _, _, _, x, _⟩
      exact SqL.of x
    · rintro i x σ H4 H5 hi ⟨y2, y3, rfl, s4, x4, cs, c4, hcs⟩ ⟨T1, u, v, rfl, nT, rfl, hu, hv⟩
      cases hu
      rw [List.length_map, List.length_drop, List.length_take] at hi
      replace hv : (((ns.take 63).drop 12).map V.int)[i]? = some v := hv
      rw [List.getElem?_map] at hv
      obtain ⟨z, hz, rfl⟩ := Option.map_eq_some_iff.mp hv
      refine ⟨T1, _, rfl, .inl (.inl upd_same), rfl, _, _, rfl, _, _, rfl, rfl, ?_⟩
      have nT2 : l2 ≠ T1 := ne_of_none c4 nT
      have nT3 : l3 ≠ T1 := ne_of_none x4 nT
      generalize hG : upd H4 T1 _ = G4
      obtain ⟨S4, g4⟩ := nw hG nT
      have ec := S4 _ _ c4
      have h12 : 12 ≤ cs.length := by omega
      have hm : i % 12 < cs.length := by have := Nat.mod_lt i (show 12 > 0 by decide); omega
      have ha : atI (cs.map V.int) ((i : Int) % 12) = some (.int cs[i % 12]) := by
        unfold atI
        rw [List.length_map, ix12 i h12]
        show (cs.map V.int)[i % 12]? = _
        rw [List.getElem?_map, List.getElem?_eq_getElem hm]
        rfl
      walk_at "rd"
      refine ⟨(by show (0 : Int) < _; decide), ?_⟩
      refine ⟨l2, _, _, _, rfl, rfl, SqL.of ec, ha, ?_⟩
      walk_at "rd"
      refine ⟨(by show (0 : Int) < _; decide), ?_⟩
      refine ⟨l2, _, _, _, rfl, rfl, ec, (by rw [List.length_map]; exact ix12 i h12), ?_⟩
      refine ⟨_, _, rfl, fun b o hb => ?_, ?_, cs.set (i % 12) (cs[i % 12] + z), ?_, ?_⟩
      · rw [upd_ne (ne_of_none hb m2)]
        exact S4 _ _ (s4 _ _ hb)
      · rw [upd_ne n23.symm]
        exact S4 _ _ x4
      · rw [upd_same, List.map_set]
      · rw [List.length_set]
        exact hcs
    · rintro σ H4 ⟨y2, y3, rfl, s4, x4, cs, c4, hcs⟩
      refine ⟨_, rfl, (by show 3 ≤ sizeLine; decide), ?_⟩
      walk_at "n5"
      exact k l5 l2 H5 (s4.trans S5) (s4.free n5) m2 ⟨cs, 0, 0, ⟨e5, S5 _ _ c4, by omega⟩, by decide, by decide⟩

/-! ### _law_anew -/
def sp_law_anew : Sp := fun vs H Q _ => ∃ (p c : Addr) (n : Nat), vs = [.ref p] ∧ Pen H p c n ∧ ∀ H', But p H H' → Pen H' p c n → Q (.ref p) H'
theorem ok_law_anew (T : Txt K mg A) : FnOk P w K mg base CX0 1 A.f_law_anew A.d_law_anew ["pen"] sp_law_anew := by
  refine T.F_law_anew.ok sc_law_anew (fun vs H Q E h => ?_) (fun cdv A' outer s H vs Q E hr h => ?_)
  · obtain ⟨a, c, n, rfl, _⟩ := h
    rfl
  · obtain ⟨p, c, n, rfl, hp, k⟩ := h
    refine ⟨_, (pss_cons (ps_asg pe_int (pg_sub (pv 0) pe_int set_list))
  (pss_one (ps_ret (pv 0)))), ?_⟩
    obtain ⟨ns, i, z, hA, h0, h1⟩ := hp
    have ne := hA.ne
    obtain ⟨a1, a2, a3⟩ := hA
    refine ⟨_, rfl, p, _, _, 2, rfl, rfl, a1, rfl, ?_⟩
    generalize hG : upd H p _ = G1
    obtain ⟨B1, f1⟩ := pt hG
    exact ⟨_, rfl, k G1 B1 ⟨ns, i, 0, ⟨f1, B1 _ _ ne a2, a3⟩, h0, h1⟩⟩

/-! ### _law_spread -/
def sp_law_spread : Sp := fun vs H Q _ => ∃ c a : Int, vs = [.int c, .int a] ∧ 0 ≤ a ∧ a ≤ 1048576 ∧ ∀ (r : Int) H', Same H H' → Q (.int r) H'
theorem ok_law_spread (T : Txt K mg A) : FnOk P w K mg base CX0 1 A.f_law_spread A.d_law_spread ["cell", "at"] sp_law_spread := by
  refine T.F_law_spread.ok sc_law_spread (fun vs H Q E h => ?_) (fun cdv A' outer s H vs Q E hr h => ?_)
  · obtain ⟨c, a, rfl, _⟩ := h
    rfl
  · obtain ⟨c, a, rfl, h0, h1, k⟩ := h
    refine ⟨_, (pss_cons (ps_if (pt_cmpR op_ge (pv 0) (pe_op op_pow pe_int pe_int) (nomark _)) (pss_one (ps_ret (pv 0))) pss_nil)
  (pss_cons (ps_set (i := 2) sc_law_spread.nd rfl (by first | exact Or.inl rfl | exact Or.inr rfl) (pe_lst (pa_cons pe_int (pa_cons pe_int (pa_cons pe_int (pa_cons pe_int (pa_cons pe_int (pa_cons pe_int (pa_cons pe_int pa_nil)))))))))
  (pss_cons (ps_set (i := 2) sc_law_spread.nd rfl (by first | exact Or.inl rfl | exact Or.inr rfl) (pe_op op_cat (pv 2) (pe_lst (pa_cons pe_int (pa_cons pe_int (pa_cons pe_int (pa_cons pe_int (pa_cons pe_int (pa_cons pe_int pa_nil)))))))))
  (pss_cons (ps_set (i := 3) sc_law_spread.nd rfl (by first | exact Or.inl rfl | exact Or.inr rfl) (pe_op op_add (pe_op op_add (pe_op op_mul (pe_op op_mod (pv 0) pe_int) (pe_op op_add (pe_op op_mul pe_int (pv 1)) pe_int)) (pe_op op_mul (pv 1) pe_int)) pe_int))
  (pss_cons (ps_set (i := 4) sc_law_spread.nd rfl (by first | exact Or.inl rfl | exact Or.inr rfl) (pe_op op_mod (pe_op op_pow (pv 3) pe_int) (pe_ix (ix_listK (K := K)) (pv 2) (pe_op op_mod (pv 1) pe_int) (fun _ _ => rfl))))
  (pss_cons (ps_set (i := 5) sc_law_spread.nd rfl (by first | exact Or.inl rfl | exact Or.inr rfl) (pe_op op_mod (pe_op op_pow (pe_op op_add (pe_op op_add (pe_op op_mul (pv 4) (pe_op op_add (pv 1) pe_int)) (pe_op op_mod (pv 0) pe_int)) pe_int) pe_int) (pe_ix (ix_listK (K := K)) (pv 2) (pe_op op_mod (pe_op op_add (pv 1) pe_int) pe_int) (fun _ _ => rfl))))
  (pss_cons (ps_set (i := 6) sc_law_spread.nd rfl (by first | exact Or.inl rfl | exact Or.inr rfl) (pe_op op_mod (pe_op op_pow (pe_op op_add (pe_op op_add (pv 5) (pe_op op_mod (pv 4) pe_int)) (pv 1)) pe_int) (pe_ix (ix_listK (K := K)) (pv 2) (pe_op op_mod (pe_op op_add (pv 1) pe_int) pe_int) (fun _ _ => rfl))))
  (pss_one (ps_ret (pe_op op_add (pe_op op_mul (pe_op op_add (pe_op op_mul (pv 4) pe_int) (pv 5)) pe_int) (pv 6))))))))))), ?_⟩
    refine ⟨_, rfl, _, _, rfl, rfl, ⟨by decide, by decide, by decide⟩, _, _, rfl, rfl, _, rfl, ite2 (fun e => ⟨_, rfl, k c H (Same.refl H)⟩) (fun e => ?_)⟩
    refine ⟨by decide, ?_⟩
    walk_at "n1"
    refine ⟨_, rfl, by decide, ?_⟩
    walk_at "n2"
    refine ⟨l1, l2, _, _, rfl, rfl, S2 _ _ e1, e2, by decide, ?_⟩
    walk_at "n3"
    have hP : SqL K H3 l3 (primesL.map V.int) := SqL.of e3
    have S : Same H H3 := (S1.trans S2).trans S3
    clear e1 e2 e3 n1 n2 n3 S1 S2 S3
    obtain ⟨q1, a1, b1, d1⟩ := primes_at a
    obtain ⟨q2, a2, b2, d2⟩ := primes_at (a + 5)
    obtain ⟨q3, a3, b3, d3⟩ := primes_at (a + 7)
    -- mixed
    walk_at "rd"
    refine ⟨(by show (0 : Int) < _; decide), ?_⟩
    walk_at "rd"
    refine ⟨.inl ⟨by decide, by decide⟩, ?_⟩
    walk_at "rd"
    refine ⟨.inl ⟨by omega, by omega⟩, ?_⟩
    walk_at "rd"
    refine ⟨.inl ⟨by omega, by omega⟩, ?_⟩
    walk_at "rd"
    -- one
    refine ⟨⟨by decide, by decide, mixed_lt c a h0 h1⟩, ?_⟩
    walk_at "rd"
    refine ⟨(by show (0 : Int) < _; decide), ?_⟩
    refine ⟨_, _, _, _, rfl, rfl, hP, a1, ?_⟩
    refine ⟨_, _, rfl, rfl, (by show (0 : Int) < q1; omega), ?_⟩
    generalize (c % 1000000007 * (2 * a + 69069) + a * 40503 + 977) ^ Int.toNat 3 = m1
    have r1 := rest_in (x := m1) b1 d1
    -- two
    walk_at "rd"
    refine ⟨.inl ⟨by omega, by omega⟩, ?_⟩
    walk_at "rd"
    refine ⟨(by show (0 : Int) < _; decide), ?_⟩
    walk_at "rd"
    refine ⟨⟨by decide, by decide, two_lt c a (m1 % q1) h0 h1 r1.1 r1.2⟩, ?_⟩
    walk_at "rd"
    refine ⟨(by show (0 : Int) < _; decide), ?_⟩
    refine ⟨_, _, _, _, rfl, rfl, hP, a2, ?_⟩
    refine ⟨_, _, rfl, rfl, (by show (0 : Int) < q2; omega), ?_⟩
    generalize (m1 % q1 * (a + 3) + c % 65537 + 5) ^ Int.toNat 5 = m2
    have r2 := rest_in (x := m2) b2 d2
    -- three
    walk_at "rd"
    refine ⟨(by show (0 : Int) < _; decide), ?_⟩
    walk_at "rd"
    refine ⟨⟨by decide, by decide, three_lt a (m1 % q1) (m2 % q2) h0 h1 r2.1 r2.2⟩, ?_⟩
    walk_at "rd"
    refine ⟨(by show (0 : Int) < _; decide), ?_⟩
    refine ⟨_, _, _, _, rfl, rfl, hP, a3, ?_⟩
    refine ⟨_, _, rfl, rfl, (by show (0 : Int) < q3; omega), ?_⟩
    walk_at "rd"
    refine ⟨.inr ⟨by decide, by decide⟩, ?_⟩
    walk_at "rd"
    refine ⟨.inr ⟨by decide, by decide⟩, ?_⟩
    walk_at "rd"
    exact k _ H3 S

/-! ### _law_take -/
def sp_law_take : Sp := fun vs H Q _ => ∃ (p c : Addr) (n m : Nat), vs = [.ref p, .int (m : Int)] ∧ Pen H p c n ∧ n ≤ 1000000 ∧ 0 < m ∧ m < 1073741824 ∧
  ∀ (r : Nat) H', r < m → But p H H' → Pen H' p c (n + 1) → Q (.int (r : Int)) H'
def t_take_end (K : PySem.W.Frag) : TS := tSeq (tAsg (tOp (rI (fun _ j => 0 < j) fun i j => V.int (i % j)) (tOp (rIxL K) (tVar 0) (tC (.int 2))) (tVar 1)) (gName 4))
  (tSeq (tAsg (tOp (rI CDiv fun i j => V.int (i / j)) (tOp (rIxL K) (tVar 0) (tC (.int 2))) (tVar 1)) (gSub (tVar 0) (tC (.int 2)) rSetL)) (tRet (tVar 4)))
def t_take_mid : TS := tSeq (tAsg (tOp (rI0 fun i j => V.int (i + j)) (tVar 2) (tC (.int 1))) (gSub (tVar 0) (tC (.int 1)) rSetL))
  (tAsg (tCall sp_law_spread [] E0 (tCons (tVar 3) (tCons (tVar 2) tNil))) (gSub (tVar 0) (tC (.int 2)) rSetL))
theorem ok_law_take (T : Txt K mg A) : FnOk P w K mg base CX0 2 A.f_law_take A.d_law_take ["pen", "many"] sp_law_take := by
  refine T.F_law_take.ok sc_law_take (fun vs H Q E h => ?_) (fun cdv A' outer s H vs Q E hr h => ?_)
  · obtain ⟨p, c, n, m, rfl, _⟩ := h
    rfl
  · obtain ⟨p, c, n, m, rfl, hp, hn, hm0, hm1, k⟩ := h
    refine ⟨_, (pss_cons (ps_if (pt_cmpR op_lt (pe_ix (ix_listK (K := K)) (pv 0) pe_int (fun _ _ => rfl)) (pv 1) (nomark _)) (pss_cons (ps_set (i := 2) sc_law_take.nd rfl (by first | exact Or.inl rfl | exact Or.inr rfl) (pe_ix (ix_listK (K := K)) (pv 0) pe_int (fun _ _ => rfl)))
  (pss_cons (ps_set (i := 3) sc_law_take.nd rfl (by first | exact Or.inl rfl | exact Or.inr rfl) pe_int)
  (pss_cons (ps_if (pt_cmpR op_lt (pv 2) (pe_callB (call_lenK (K := K)) (by rfl) T.len PySem.boot_len (pa_cons (pe_ix (ix_listK (K := K)) (pv 0) pe_int (fun _ _ => rfl)) pa_nil)) (nomark _)) (pss_one (ps_set (i := 3) sc_law_take.nd rfl (by first | exact Or.inl rfl | exact Or.inr rfl) (pe_ix (ix_listK (K := K)) (pe_ix (ix_listK (K := K)) (pv 0) pe_int (fun _ _ => rfl)) (pv 2) (fun _ _ => rfl)))) (pss_one (ps_if (pt_cmpR op_gt (pe_callB (call_lenK (K := K)) (by rfl) T.len PySem.boot_len (pa_cons (pe_ix (ix_listK (K := K)) (pv 0) pe_int (fun _ _ => rfl)) pa_nil)) pe_int (nomark _)) (pss_one (ps_set (i := 3) sc_law_take.nd rfl (by first | exact Or.inl rfl | exact Or.inr rfl) (pe_op op_mod (pe_ix (ix_listK (K := K)) (pe_ix (ix_listK (K := K)) (pv 0) pe_int (fun _ _ => rfl)) (pe_op op_mod (pe_op op_add (pe_op op_mul (pv 2) pe_int) pe_int) (pe_callB (call_lenK (K := K)) (by rfl) T.len PySem.boot_len (pa_cons (pe_ix (ix_listK (K := K)) (pv 0) pe_int (fun _ _ => rfl)) pa_nil))) (fun _ _ => rfl)) (pe_op op_add (pe_op op_pow pe_int pe_int) (pv 2))))) pss_nil)))
  (pss_cons (ps_asg (pe_op op_add (pv 2) pe_int) (pg_sub (pv 0) pe_int set_list))
  (pss_one (ps_asg (pe_call (ok_law_spread T) hr (by rfl) T.g_law_spread T.F_law_spread.kp T.b_law_spread .nil pass0 (pa_cons (pv 3) (pa_cons (pv 2) pa_nil))) (pg_sub (pv 0) pe_int set_list))))))) pss_nil)
  (pss_cons (ps_set (i := 4) sc_law_take.nd rfl (by first | exact Or.inl rfl | exact Or.inr rfl) (pe_op op_mod (pe_ix (ix_listK (K := K)) (pv 0) pe_int (fun _ _ => rfl)) (pv 1)))
  (pss_cons (ps_asg (pe_op op_fdiv (pe_ix (ix_listK (K := K)) (pv 0) pe_int (fun _ _ => rfl)) (pv 1)) (pg_sub (pv 0) pe_int set_list))
  (pss_one (ps_ret (pv 4)))))), ?_⟩
    -- the last three rows: found, the rest, the return
    have fin : ∀ (H1 : Hp) (σ : L2.St) (x2 x3 : Option V), But p H H1 → (∃ ns i z, PenAt H1 p c ns i z ∧ 0 ≤ i ∧ i ≤ ((n + 1 : Nat) : Int)) → σ = [some (.ref p), some (.int m), x2, x3, none] →
        t_take_end K { nx := fun _ H' => Q .non H', rt := Q } σ H1 := by
      rintro H1 σ x2 x3 B1 ⟨ns, i, z, hA, h0, h1⟩ rfl
      have ne := hA.ne
      obtain ⟨a1, a2, a3⟩ := hA
      refine ⟨_, rfl, p, _, _, _, rfl, rfl, SqL.of a1, atI_nat (j := 2) rfl, ?_⟩
      walk_at "rd"
      refine ⟨(by show (0 : Int) < m; omega), ?_⟩
      refine ⟨_, rfl, p, _, _, _, rfl, rfl, SqL.of a1, atI_nat (j := 2) rfl, ?_⟩
      walk_at "rd"
      refine ⟨⟨(by show (0 : Int) < m; omega), (by show (m : Int) < 1073741824; omega)⟩, ?_⟩
      refine ⟨_, rfl, p, _, _, 2, rfl, rfl, a1, rfl, ?_⟩
      generalize hG : upd H1 p _ = G1
      obtain ⟨B2, f2⟩ := pt hG
      refine ⟨_, rfl, ?_⟩
      have r0 : 0 ≤ z % (m : Int) := Int.emod_nonneg _ (by omega)
      have r1 : z % (m : Int) < m := Int.emod_lt_of_pos _ (by omega)
      obtain ⟨r, hr'⟩ := Int.eq_ofNat_of_zero_le r0
      have q := k r G1 (by omega) (B1.trans B2) ⟨ns, i, z / m, ⟨f2, B2 _ _ ne a2, a3⟩, h0, h1⟩
      rw [← hr'] at q
      exact q
    obtain ⟨ns, i, z, hA, h0, h1⟩ := hp
    have ne := hA.ne
    obtain ⟨a1, a2, a3⟩ := hA
    -- pen[2] < many
    refine ⟨_, rfl, p, _, _, _, rfl, rfl, SqL.of a1, atI_nat (j := 2) rfl, ?_⟩
    walk_at "rd"
    refine ite2 (fun e => ?_) (fun e => ?_)
    · -- at = pen[1]; cell = 0
      refine ⟨_, rfl, p, _, _, _, rfl, rfl, SqL.of a1, atI_nat (j := 1) rfl, ?_⟩
      -- pen[1] = at + 1; pen[2] = _law_spread(cell, at)
      have go : ∀ (σ : L2.St) (z3 : Int), σ = [some (.ref p), some (.int m), some (.int i), some (.int z3), none] →
          t_take_mid { nx := t_take_end K { nx := fun _ H' => Q .non H', rt := Q }, rt := Q } σ H := by
        rintro σ z3 rfl
        walk_at "rd"
        refine ⟨p, _, _, 1, rfl, rfl, a1, rfl, ?_⟩
        generalize hG : upd H p _ = G1
        obtain ⟨B1, f1⟩ := pt hG
        refine ⟨_, rfl, _, rfl, _, _, rfl, h0, (by omega), fun r G2 S2 => ?_⟩
        refine ⟨_, rfl, p, _, _, 2, rfl, rfl, S2 _ _ f1, rfl, ?_⟩
        generalize hG3 : upd G2 p _ = G3
        obtain ⟨B3, f3⟩ := pt hG3
        refine fin G3 _ _ _ ((B1.trans (But.of_same S2)).trans B3) ⟨ns, i + 1, r, ⟨f3, B3 _ _ ne (S2 _ _ (B1 _ _ ne a2)), a3⟩, by omega, by omega⟩ rfl
      -- at < len(pen[0])
      refine ⟨_, rfl, _, rfl, p, _, _, _, rfl, rfl, SqL.of a1, atI_nat (j := 0) rfl, ?_⟩
      refine ⟨c, _, rfl, .inl (SqL.of a2), ?_⟩
      walk_at "rd"
      refine ite2 (fun e2 => ?_) (fun e2 => ?_)
      · have l2 : i < (ns.map V.int).length := of_decide_eq_true e2
        rw [List.length_map] at l2
        obtain ⟨j, hj⟩ := Int.eq_ofNat_of_zero_le h0
        refine ⟨_, rfl, p, _, _, _, rfl, rfl, SqL.of a1, atI_nat (j := 0) rfl, ?_⟩
        refine ⟨_, rfl, c, _, _, .int (ns[j]'(by omega)), rfl, rfl, SqL.of a2, at_of hj (by rw [List.getElem?_map, List.getElem?_eq_getElem (show j < ns.length by omega)]; rfl), ?_⟩
        exact go _ _ rfl
      · refine ⟨_, rfl, p, _, _, _, rfl, rfl, SqL.of a1, atI_nat (j := 0) rfl, ?_⟩
        refine ⟨c, _, rfl, .inl (SqL.of a2), ?_⟩
        walk_at "rd"
        refine ite2 (fun e3 => ?_) (fun e3 => go _ 0 rfl)
        have l3 : 0 < ((ns.map V.int).length : Int) := of_decide_eq_true e3
        rw [List.length_map] at l3
        refine ⟨_, rfl, p, _, _, _, rfl, rfl, SqL.of a1, atI_nat (j := 0) rfl, ?_⟩
        walk_at "rd"
        refine ⟨.inr ⟨by decide, by decide⟩, ?_⟩
        walk_at "rd"
        refine ⟨p, _, _, _, rfl, rfl, SqL.of a1, atI_nat (j := 0) rfl, ?_⟩
        refine ⟨c, _, rfl, .inl (SqL.of a2), ?_⟩
        refine ⟨_, _, rfl, rfl, (by show (0 : Int) < ((ns.map V.int).length : Int); rw [List.length_map]; exact l3), ?_⟩
        have u0 : 0 ≤ (i * 5 + 3) % ((ns.map V.int).length : Int) := Int.emod_nonneg _ (by rw [List.length_map]; omega)
        have u1 : (i * 5 + 3) % ((ns.map V.int).length : Int) < ((ns.map V.int).length : Int) := Int.emod_lt_of_pos _ (by rw [List.length_map]; omega)
        obtain ⟨j, hj⟩ := Int.eq_ofNat_of_zero_le u0
        have hj2 : j < ns.length := by rw [List.length_map] at u1; rw [List.length_map] at hj; omega
        refine ⟨c, _, _, .int (ns[j]'hj2), rfl, rfl, SqL.of a2, at_of hj (by rw [List.getElem?_map, List.getElem?_eq_getElem hj2]; rfl), ?_⟩
        walk_at "rd"
        refine ⟨⟨by decide, by decide, by decide⟩, ?_⟩
        walk_at "rd"
        refine ⟨(by show (0 : Int) < 10 ^ Int.toNat 17 + i; have : (0 : Int) < 10 ^ Int.toNat 17 := by decide
                    omega), ?_⟩
        exact go _ _ rfl
    · refine fin H _ none none (But.refl p H) ⟨ns, i, z, ⟨a1, a2, a3⟩, h0, by omega⟩ rfl

/-! ### _law_one -/
def sp_law_one (K : PySem.W.Frag) : Sp := fun vs H Q _ => ∃ (p c : Addr) (n : Nat) (x : V), vs = [.ref p, x] ∧ Pen H p c n ∧ n ≤ 1000000 ∧
  ((∃ (a : Addr) (xs : List V), x = .ref a ∧ SqL K H a xs ∧ a ≠ p ∧ 0 < xs.length ∧ xs.length < 1073741824 ∧ ∀ (r : Nat) v H', xs[r]? = some v → But p H H' → Pen H' p c (n + 1) → Q v H') ∨
   (∃ z : Str, x = .str z ∧ 0 < z.length ∧ z.length ≤ sizeLine ∧ ∀ (r : Nat) (d : Nat) H', z.cps.toList[r]? = some d → But p H H' → Pen H' p c (n + 1) → Q (.str ⟨#[d]⟩) H'))
theorem ok_law_one (T : Txt K mg A) : FnOk P w K mg base CX0 3 A.f_law_one A.d_law_one ["pen", "some"] (sp_law_one K) := by
  refine T.F_law_one.ok sc_law_one (fun vs H Q E h => ?_) (fun cdv A' outer s H vs Q E hr h => ?_)
  · obtain ⟨p, c, n, x, rfl, _⟩ := h
    rfl
  · obtain ⟨p, c, n, x, rfl, hp, hn, h⟩ := h
    rcases h with ⟨a, xs, rfl, hS, ne, h0, h1, k⟩ | ⟨z, rfl, h0, h1, k⟩
    · refine ⟨_, (pss_one (ps_ret (pe_ix (ix_listK (K := K)) (pv 1) (pe_call (ok_law_take T) hr (by rfl) T.g_law_take T.F_law_take.kp T.b_law_take .nil pass0 (pa_cons (pv 0) (pa_cons (pe_callB (call_lenK (K := K)) (by rfl) T.len PySem.boot_len (pa_cons (pv 1) pa_nil)) pa_nil))) (fun _ _ => rfl)))), ?_⟩
      refine ⟨_, rfl, _, rfl, _, rfl, a, xs, rfl, .inl hS, p, c, n, xs.length, rfl, hp, hn, h0, h1, fun r H' hr' B hp' => ?_⟩
      exact ⟨a, xs, _, xs[r], rfl, rfl, B.seq ne hS, atI_nat (List.getElem?_eq_getElem hr'), k r _ H' (List.getElem?_eq_getElem hr') B hp'⟩
    · refine ⟨_, (pss_one (ps_ret (pe_ix ix_str (pv 1) (pe_call (ok_law_take T) hr (by rfl) T.g_law_take T.F_law_take.kp T.b_law_take .nil pass0 (pa_cons (pv 0) (pa_cons (pe_callB call_len_str (by rfl) T.len PySem.boot_len (pa_cons (pv 1) pa_nil)) pa_nil))) (fun _ _ => rfl)))), ?_⟩
      have hz : z.length = z.cps.toList.length := rfl
      have hsz : sizeLine = 16777216 := sizeLine_eq
      refine ⟨_, rfl, _, rfl, _, rfl, z, rfl, h1, p, c, n, z.length, rfl, hp, hn, h0, by omega, fun r H' hr' B hp' => ?_⟩
      have e : z.cps.toList[r]? = some (z.cps.toList[r]'(by omega)) := List.getElem?_eq_getElem (by omega)
      exact ⟨z, _, _, rfl, rfl, h1, atI_nat e, k r _ H' e B hp'⟩

/-! ### is_integer -/
def isIntD : PyData → Bool | .int _ => true | _ => false
def sp_is_integer (K : PySem.W.Frag) : Sp := fun vs H Q _ => ∃ x d, vs = [x] ∧ Dp K H x d ∧ Q (.bl (isIntD d)) H
theorem ok_is_integer (T : Txt K mg A) : FnOk P w K mg base CX0 1 A.f_is_integer A.d_is_integer ["value"] (sp_is_integer K) := by
  refine T.F_is_integer.ok sc_is_integer (fun vs H Q E h => ?_) (fun cdv A' outer s H vs Q E hr h => ?_)
  · obtain ⟨x, d, rfl, _⟩ := h
    rfl
  · obtain ⟨x, d, rfl, hd, k⟩ := h
    refine ⟨_, (pss_one (ps_ret (pe_and (pe_callB call_isi (by rfl) T.isinstance PyProof.Rows.boot_isinstance (pa_cons (pv 0) (pa_cons (pe_bltn (v := .ty "int") (by rfl) T.int (by decide +kernel) rfl) pa_nil))) (pe_one (pe_not (pe_callB call_isi (by rfl) T.isinstance PyProof.Rows.boot_isinstance (pa_cons (pv 0) (pa_cons (pe_bltn (v := .ty "bool") (by rfl) T.bool (by decide +kernel) rfl) pa_nil)))))))), ?_⟩
    refine ⟨_, rfl, _, _, _, _, _, rfl, .ty _, dp_ty hd, kit_int d, _, rfl, ?_⟩
    cases hd with
    | int i => exact iteT ⟨_, rfl, _, _, _, _, _, rfl, .ty _, dp_ty (K := K) (H := H) (.int i), kit_bool _, _, rfl, k⟩
    | bl b => exact iteT ⟨_, rfl, _, _, _, _, _, rfl, .ty _, dp_ty (K := K) (H := H) (.bl b), kit_bool _, _, rfl, k⟩
    | non => exact iteF k
    | str z => exact iteF k
    | lst h1 h2 => exact iteF k
    | tup h1 h2 => exact iteF k

/-! ### is_integer_from -/
def sp_is_integer_from (K : PySem.W.Frag) : Sp := fun vs H Q _ => ∃ x d lo hi, vs = [x, .int lo, .int hi] ∧ Dp K H x d ∧ Q (.bl (inRange d lo hi)) H
theorem ok_is_integer_from (T : Txt K mg A) : FnOk P w K mg base CX0 2 A.f_is_integer_from A.d_is_integer_from ["value", "low", "high"] (sp_is_integer_from K) := by
  refine T.F_is_integer_from.ok sc_is_integer_from (fun vs H Q E h => ?_) (fun cdv A' outer s H vs Q E hr h => ?_)
  · obtain ⟨x, d, lo, hi, rfl, _⟩ := h
    rfl
  · obtain ⟨x, d, lo, hi, rfl, hd, k⟩ := h
    refine ⟨_, (pss_one (ps_ret (pe_and (pe_call (ok_is_integer T) hr (by rfl) T.g_is_integer T.F_is_integer.kp T.b_is_integer .nil pass0 (pa_cons (pv 0) pa_nil)) (pe_one (pe_chain op_le op_le (pv 1) (pv 0) (pv 2)))))), ?_⟩
    refine ⟨_, rfl, x, d, rfl, hd, _, rfl, ?_⟩
    cases hd with
    | int i =>
      refine iteT ⟨_, rfl, _, rfl, _, _, rfl, rfl, _, rfl, ?_⟩
      have k' : Q (.bl (decide (lo ≤ i) && decide (i ≤ hi))) H := k
      by_cases h1 : lo ≤ i
      · rw [decide_eq_true h1] at k' ⊢
        exact iteT ⟨_, rfl, _, _, rfl, rfl, k'⟩
      · rw [decide_eq_false h1] at k' ⊢
        exact iteF k'
    | bl b => exact iteF k
    | non => exact iteF k
    | str z => exact iteF k
    | lst h1 h2 => exact iteF k
    | tup h1 h2 => exact iteF k

/-! ### need_integer -/
theorem str_app_len (a b : Str) : (a ++ b).length = a.length + b.length := by
  show (a.cps ++ b.cps).size = _
  rw [Array.size_append]
  rfl
def sp_need_integer (K : PySem.W.Frag) (A : Ad) : Sp := fun vs H Q E => ∃ x d lo hi, vs = [x, .int lo, .int hi] ∧ Dp K H x d ∧ lo.natAbs < 10 ^ 60 ∧ hi.natAbs < 10 ^ 60 ∧ (inRange d lo hi = true → Q .non H) ∧ (inRange d lo hi = false → E (.ref A.c_InvalidNumber) none H)
theorem int_short {i : Int} (h : i.natAbs < 10 ^ 60) : (Str.ofString (toString i)).length ≤ 102 := by
  have e := int_text_length_le10 (k := 60) (by decide) h
  rw [PySem.ofString_length]
  omega
theorem ok_need_integer (T : Txt K mg A) : FnOk P w K mg base (L2.CX P w) 3 A.f_need_integer A.d_need_integer ["value", "low", "high"] (sp_need_integer K A) := by
  refine T.F_need_integer.okX sc_need_integer (fun vs H Q E h => ?_) (fun cdv A' outer s H vs Q E hr h => ?_)
  · obtain ⟨x, d, lo, hi, rfl, _⟩ := h
    rfl
  · obtain ⟨x, d, lo, hi, rfl, hd, b1, b2, k1, k2⟩ := h
    refine ⟨_, (pss_one (ps_if (pt_not (pt_val (pe_call (ok_is_integer_from T) hr (by rfl) T.g_is_integer_from T.F_is_integer_from.kp T.b_is_integer_from .nil pass0 (pa_cons (pv 0) (pa_cons (pv 1) (pa_cons (pv 2) pa_nil)))))) (pss_one (ps_raise rfl (takes_of rfl rfl rfl rfl) (SkE.pmk_own1 PySem.F.excBase_ValueError T.x_InvalidNumber.x T.g_InvalidNumber T.x_InvalidNumber.k (raises_own T.x_InvalidNumber.b T.x_InvalidNumber.t) rfl (pe_joined (.cons pe_str (.cons (pe_fmt (pv 1)) (.cons pe_str (.cons (pe_fmt (pv 2)) (.cons pe_str .nil))))))))) pss_nil)), ?_⟩
    refine ⟨_, rfl, _, rfl, _, rfl, x, d, lo, hi, rfl, hd, _, rfl, ?_⟩
    cases e : inRange d lo hi with
    | true => exact iteF (k1 e)
    | false =>
      have f1 := int_short b1
      have f2 := int_short b2
      have g1 : lo.natAbs.log2 < 1920 := log2_of (k := 200) (Nat.lt_trans b1 (by decide)) (by decide) (by decide)
      have g2 : hi.natAbs.log2 < 1920 := log2_of (k := 200) (Nat.lt_trans b2 (by decide)) (by decide) (by decide)
      have hz : sizeLine = 16777216 := sizeLine_eq
      have c1 : (("an integer from " : String) : Str).length = 16 := by decide +kernel
      have c2 : ((" to " : String) : Str).length = 4 := by decide +kernel
      have c3 : ((" is needed" : String) : Str).length = 10 := by decide +kernel
      have c0 : Str.empty.length = 0 := rfl
      refine iteT ⟨_, rfl, ?_, _, rfl, .inr ⟨lo, rfl, g1, _, rfl, ?_, _, rfl, ?_, _, rfl, .inr ⟨hi, rfl, g2, _, rfl, ?_, _, rfl, ?_, k2 e⟩⟩⟩
      all_goals (simp only [str_app_len]; omega)

/-! ### _power -/
def sp_power (A : Ad) : Sp := fun vs H Q E => ∃ b e : Nat, vs = [.int (b : Int), .int (e : Int)] ∧ 1 ≤ b ∧ b ≤ 26 ∧ (b = 1 → e ≤ 4000) ∧ (4000 < e → E (.ref A.c_TooLarge) none H) ∧ (e ≤ 4000 → Q (.int ((b ^ e : Nat) : Int)) H)
theorem ok_power (T : Txt K mg A) : FnOk P w K mg base (L2.CX P w) 1 A.f_power A.d_power ["base", "exponent"] (sp_power A) := by
  refine T.F_power.okX sc_power (fun vs H Q E h => ?_) (fun cdv A' outer s H vs Q E hr h => ?_)
  · obtain ⟨b, e, rfl, _⟩ := h
    rfl
  · obtain ⟨b, e, rfl, hb0, hb1, h1, kE, kQ⟩ := h
    refine ⟨_, (pss_cons (ps_if (PW.pt (pw_and (pt_cmpR op_gt (pv 0) pe_int (nomark _)) (pw_and1 (pt_cmpR op_gt (pv 1) (pe_op op_mul pe_int (pe_glob (v := .int 1000) (by rfl) T.g_MOST_DIGITS ⟨_, rfl⟩)) (nomark _))))) (pss_one (ps_raise rfl (takes_of rfl rfl rfl rfl) (pmk_own PySem.F.excBase_ValueError T.x_TooLarge.x T.g_TooLarge T.x_TooLarge.k (raises_own T.x_TooLarge.b T.x_TooLarge.t) rfl))) pss_nil)
  (pss_cons (ps_set (i := 2) sc_power.nd rfl (by first | exact Or.inl rfl | exact Or.inr rfl) pe_int)
  (pss_cons (ps_for (passes_of rfl) rfl (pi_range1 (by rfl) T.range (pa_cons (pv 1) pa_nil)) (pg_name (i := 3) sc_power.nd rfl (by first | exact Or.inl rfl | exact Or.inr rfl)) (pss_one (ps_set (i := 2) sc_power.nd rfl (by first | exact Or.inl rfl | exact Or.inr rfl) (pe_op op_mul (pv 2) (pv 0)))))
  (pss_one (ps_ret (pv 2)))))), ?_⟩
    by_cases he : 4000 < e
    · have hb : 1 < b := by
        rcases Nat.lt_or_ge 1 b with h | h
        · exact h
        · have := h1 (by omega); omega
      refine ⟨_, rfl, _, _, rfl, rfl, _, rfl, ?_⟩
      dsimp only
      rw [show decide ((1 : Int) < (b : Int)) = true from decide_eq_true (by omega)]
      refine iteT ⟨_, rfl, _, _, rfl, rfl, .inl ⟨by decide, by decide⟩, _, _, rfl, rfl, _, rfl, ?_⟩
      dsimp only
      rw [show decide ((4 * 1000 : Int) < (e : Int)) = true from decide_eq_true (by omega)]
      exact iteT (kE he)
    · have hrest : ∀ y3 : Option V, Q (.int ((b ^ e : Nat) : Int)) H := fun _ => kQ (by omega)
      have fin : tSeq (tAsg (tC (V.int 1)) (gName 2)) (tSeq (tFor (iRng1 (tCons (tVar 1) tNil)) (gName 3) (tAsg (tOp (rI CMul fun i j => V.int (i * j)) (tVar 2) (tVar 0)) (gName 2))) (tRet (tVar 2))) { nx := fun x H' => Q V.non H', rt := Q } [some (.int (b : Int)), some (.int (e : Int)), none, none] H := by
        refine ⟨_, rfl, (e : Int), rfl, by omega, by omega, for_it walk_rangeN (fun i σ H' => ∃ y, σ = [some (.int (b : Int)), some (.int (e : Int)), some (.int ((b ^ i : Nat) : Int)), y] ∧ H' = H) ⟨none, rfl, rfl⟩ (fun _ _ _ _ _ => trivial) ?_ ?_⟩
        · rintro i x σ H2 H3 hi ⟨y, rfl, rfl⟩ ⟨rfl, rfl⟩
          refine ⟨_, rfl, _, rfl, _, _, rfl, rfl, .inr ⟨by omega, by omega⟩, some (vN i), ?_, rfl⟩
          rw [Nat.pow_succ, Int.natCast_mul]
          rfl
        · rintro σ H2 ⟨y, rfl, rfl⟩
          rw [Int.toNat_natCast]
          exact ⟨_, rfl, kQ (by omega)⟩
      refine ⟨_, rfl, _, _, rfl, rfl, _, rfl, ?_⟩
      dsimp only
      by_cases hb : 1 < b
      · rw [show decide ((1 : Int) < (b : Int)) = true from decide_eq_true (by omega)]
        refine iteT ⟨_, rfl, _, _, rfl, rfl, .inl ⟨by decide, by decide⟩, _, _, rfl, rfl, _, rfl, ?_⟩
        dsimp only
        rw [show decide ((4 * 1000 : Int) < (e : Int)) = false from decide_eq_false (by omega)]
        exact iteF fin
      · rw [show decide ((1 : Int) < (b : Int)) = false from decide_eq_false (by omega)]
        exact iteF fin

/-! ### _has_too_many_digits -/
def sp_has_too_many_digits : Sp := fun vs H Q _ => ∃ n : Nat, vs = [.int (n : Int)] ∧ n < 2 ^ 1920 ∧ Q (.bl false) H
theorem ok_has_too_many_digits (T : Txt K mg A) : FnOk P w K mg base CX0 1 A.f_has_too_many_digits A.d_has_too_many_digits ["number"] sp_has_too_many_digits := by
  refine T.F_has_too_many_digits.ok sc_has_too_many_digits (fun vs H Q E h => ?_) (fun cdv A' outer s H vs Q E hr h => ?_)
  · obtain ⟨n, rfl, _⟩ := h
    rfl
  · obtain ⟨n, rfl, hn, k⟩ := h
    refine ⟨_, (pss_cons (ps_set (i := 1) sc_has_too_many_digits.nd rfl (by first | exact Or.inl rfl | exact Or.inr rfl) pe_int)
  (pss_cons (ps_set (i := 2) sc_has_too_many_digits.nd rfl (by first | exact Or.inl rfl | exact Or.inr rfl) (pv 0))
  (pss_cons (ps_while PassesOwn.never (pt_cmpR op_gt (pv 2) pe_int (nomark _)) (pss_cons (ps_aug (i := 1) sc_has_too_many_digits.nd rfl (by first | exact Or.inl rfl | exact Or.inr rfl) pe_int ip_add)
  (pss_one (ps_set (i := 2) sc_has_too_many_digits.nd rfl (by first | exact Or.inl rfl | exact Or.inr rfl) (pe_op op_fdiv (pv 2) pe_int)))))
  (pss_one (ps_ret (pe_cmpR op_gt (pv 1) (pe_glob (v := .int 1000) (by rfl) T.g_MOST_DIGITS ⟨_, rfl⟩) (nomark _))))))), ?_⟩
    have h0 : n < 10 ^ 600 := Nat.lt_trans hn (by decide +kernel)
    refine ⟨_, rfl, fun m σ H' => ∃ d r : Nat, σ = [some (.int (n : Int)), some (.int (d : Int)), some (.int (r : Int))] ∧ H' = H ∧ m = 600 - d ∧ d ≤ 600 ∧ r < 10 ^ (600 - d), ⟨600, 0, n, rfl, rfl, rfl, by decide, h0⟩, ?_⟩
    rintro m σ H' ⟨d, r, rfl, rfl, hm, hd, hr'⟩
    refine ⟨_, rfl, _, _, rfl, rfl, _, rfl, ?_⟩
    dsimp only
    by_cases hz : r = 0
    · rw [show decide ((0 : Int) < (r : Int)) = false from decide_eq_false (by omega)]
      refine iteF ⟨_, rfl, _, _, rfl, rfl, ?_⟩
      dsimp only
      rw [show decide ((1000 : Int) < (d : Int)) = false from decide_eq_false (by omega)]
      exact k
    · rw [show decide ((0 : Int) < (r : Int)) = true from decide_eq_true (by omega)]
      have h1 : 600 - d = (600 - (d + 1)) + 1 := by
        rcases Nat.lt_or_ge d 600 with h | h
        · omega
        · rw [show 600 - d = 0 by omega] at hr'
          omega
      refine iteT ⟨fun σ' H2 => ∃ d' r' : Nat, σ' = [some (.int (n : Int)), some (.int (d' : Int)), some (.int (r' : Int))] ∧ H2 = H' ∧ d' = d + 1 ∧ d' ≤ 600 ∧ r' < 10 ^ (600 - d'), ?_, ?_⟩
      · rintro σ' H2 ⟨d', r', rfl, rfl, q1, q2, q3⟩
        exact ⟨600 - d', by omega, d', r', rfl, rfl, rfl, q2, q3⟩
      · refine ⟨_, rfl, _, _, rfl, rfl, _, rfl, _, _, rfl, rfl, ⟨by decide, by decide⟩, d + 1, r / 10, ?_, rfl, rfl, ?_, ?_⟩
        · rw [show ((r / 10 : Nat) : Int) = (r : Int) / 10 by omega, show ((d + 1 : Nat) : Int) = (d : Int) + 1 by omega]
          rfl
        · rcases Nat.lt_or_ge d 600 with h | h
          · omega
          · rw [show 600 - d = 0 by omega] at hr'
            omega
        · rw [h1, Nat.pow_succ] at hr'
          exact Nat.div_lt_of_lt_mul (by rw [Nat.mul_comm]; exact hr')

/-! ### sure_length -/
/-- the sure length of number i + 1, as long as its parts are small -/
def sureN (k : Nat) : Nat → Option Nat
  | 0 => some 1
  | i + 1 => match sureN k i with
    | none => none
    | some x => if 4000 < x then none else some ((x + 1) * (k ^ x + 1) - 1)
def sureNOk (k i : Nat) : Bool := match sureN k i with | none => true | some x => decide (1 ≤ x ∧ x < 2 ^ 1900 ∧ (k = 1 → x ≤ 4000))
theorem sureN_fin : ∀ k : Fin 26, ∀ i : Fin 10, sureNOk (k.val + 1) i.val = true := by decide +kernel
theorem sureN_lt {k i x : Nat} (h0 : 1 ≤ k) (h1 : k ≤ 26) (hi : i < 10) (h : sureN k i = some x) : 1 ≤ x ∧ x < 2 ^ 1900 ∧ (k = 1 → x ≤ 4000) := by
  have q := sureN_fin ⟨k - 1, by omega⟩ ⟨i, hi⟩
  have e : k - 1 + 1 = k := by omega
  unfold sureNOk at q
  simp only [e, h] at q
  exact of_decide_eq_true q
theorem sureN_none {k i : Nat} (h : sureN k i = none) : ∀ j, sureN k (i + j) = none
  | 0 => h
  | j + 1 => by
    show (match sureN k (i + j) with | none => none | some x => if 4000 < x then none else some ((x + 1) * (k ^ x + 1) - 1)) = none
    rw [sureN_none h j]
theorem sureN_big {k i x : Nat} (h : sureN k i = some x) (hx : 4000 < x) : sureN k (i + 1) = none := by
  show (match sureN k i with | none => none | some x => if 4000 < x then none else some ((x + 1) * (k ^ x + 1) - 1)) = none
  rw [h]
  exact if_pos hx
theorem sureN_step {k i x : Nat} (h : sureN k i = some x) (hx : x ≤ 4000) : sureN k (i + 1) = some ((x + 1) * (k ^ x + 1) - 1) := by
  show (match sureN k i with | none => none | some x => if 4000 < x then none else some ((x + 1) * (k ^ x + 1) - 1)) = _
  rw [h]
  exact if_neg (by omega)
def sureOk (d e : PyData) : Option (Nat × Nat) := match d, e with
  | .int n, .int k => if 1 ≤ n ∧ n ≤ 10 ∧ 1 ≤ k ∧ k ≤ 26 then some (n.toNat, k.toNat) else none
  | _, _ => none
theorem sure_in {d e : PyData} (h1 : inRange d 1 10 = true) (h2 : inRange e 1 26 = true) : ∃ n k : Nat, d = .int (n : Int) ∧ e = .int (k : Int) ∧ 1 ≤ n ∧ n ≤ 10 ∧ 1 ≤ k ∧ k ≤ 26 := by
  cases d with
  | int i =>
    cases e with
    | int j =>
      have a1 : (decide (1 ≤ i) && decide (i ≤ 10)) = true := h1
      have a2 : (decide (1 ≤ j) && decide (j ≤ 26)) = true := h2
      rw [Bool.and_eq_true, decide_eq_true_eq, decide_eq_true_eq] at a1 a2
      exact ⟨i.toNat, j.toNat, by rw [Int.toNat_of_nonneg (by omega)], by rw [Int.toNat_of_nonneg (by omega)], by omega, by omega, by omega, by omega⟩
    | _ => cases h2
  | _ => cases h1
def sp_sure_length (K : PySem.W.Frag) (A : Ad) : Sp := fun vs H Q E => ∃ x y d e, vs = [x, y] ∧ Dp K H x d ∧ Dp K H y e ∧ ((inRange d 1 10 && inRange e 1 26) = false → E (.ref A.c_InvalidNumber) none H) ∧
  ∀ n k : Nat, d = .int (n : Int) → e = .int (k : Int) → 1 ≤ n → n ≤ 10 → 1 ≤ k → k ≤ 26 → (∀ v, sureN k (n - 1) = some v → Q (.int (v : Int)) H) ∧ (sureN k (n - 1) = none → E (.ref A.c_TooLarge) none H)
theorem ok_sure_length (T : Txt K mg A) : FnOk P w K mg base (L2.CX P w) 4 A.f_sure_length A.d_sure_length ["number", "letters"] (sp_sure_length K A) := by
  refine T.F_sure_length.okX sc_sure_length (fun vs H Q E h => ?_) (fun cdv A' outer s H vs Q E hr h => ?_)
  · obtain ⟨x, y, d, e, rfl, _⟩ := h
    rfl
  · obtain ⟨x, y, d, e, rfl, hd, he, kE, kQ⟩ := h
    refine ⟨_, (pss_cons (ps_expr (pe_callS (ok_need_integer T) hr (by rfl) T.g_need_integer T.F_need_integer.kp T.b_need_integer (fun σ => passAt (takes_of rfl rfl rfl rfl) σ) (pa_cons (pv 0) (pa_cons pe_int (pa_cons (pe_glob (v := .int 10) (by rfl) T.g_LAST_NUMBER ⟨_, rfl⟩) pa_nil)))))
  (pss_cons (ps_expr (pe_callS (ok_need_integer T) hr (by rfl) T.g_need_integer T.F_need_integer.kp T.b_need_integer (fun σ => passAt (takes_of rfl rfl rfl rfl) σ) (pa_cons (pv 1) (pa_cons pe_int (pa_cons (pe_glob (v := .int 26) (by rfl) T.g_MOST_LETTERS ⟨_, rfl⟩) pa_nil)))))
  (pss_cons (ps_set (i := 2) sc_sure_length.nd rfl (by first | exact Or.inl rfl | exact Or.inr rfl) pe_int)
  (pss_cons (ps_for (passes_of rfl) rfl (pi_range1 (by rfl) T.range (pa_cons (pe_op op_sub (pv 0) pe_int) pa_nil)) (pg_name (i := 3) sc_sure_length.nd rfl (by first | exact Or.inl rfl | exact Or.inr rfl)) (pss_one (ps_set (i := 2) sc_sure_length.nd rfl (by first | exact Or.inl rfl | exact Or.inr rfl) (pe_op op_sub (pe_op op_mul (pe_op op_add (pv 2) pe_int) (pe_op op_add (pe_callS (ok_power T) (hr.mono (by decide)) (by rfl) T.g_power T.F_power.kp T.b_power (fun σ => passAt (takes_of rfl rfl rfl rfl) σ) (pa_cons (pv 1) (pa_cons (pv 2) pa_nil))) pe_int)) pe_int))))
  (pss_cons (ps_if (pt_val (pe_call (ok_has_too_many_digits T) (hr.mono (by decide)) (by rfl) T.g_has_too_many_digits T.F_has_too_many_digits.kp T.b_has_too_many_digits .nil pass0 (pa_cons (pv 2) pa_nil))) (pss_one (ps_raise rfl (takes_of rfl rfl rfl rfl) (pmk_own PySem.F.excBase_ValueError T.x_TooLarge.x T.g_TooLarge T.x_TooLarge.k (raises_own T.x_TooLarge.b T.x_TooLarge.t) rfl))) pss_nil)
  (pss_one (ps_ret (pv 2)))))))), ?_⟩
    refine ⟨_, rfl, x, d, 1, 10, rfl, hd, by decide, by decide, fun q1 => ?_, fun q1 => kE (by rw [q1]; rfl)⟩
    refine ⟨_, rfl, y, e, 1, 26, rfl, he, by decide, by decide, fun q2 => ?_, fun q2 => kE (by rw [q1, q2]; rfl)⟩
    obtain ⟨n, k, rfl, rfl, n0, n1, k0, k1⟩ := sure_in q1 q2
    obtain ⟨kv, kn⟩ := kQ n k rfl rfl n0 n1 k0 k1
    cases hd
    cases he
    clear kE kQ q1 q2
    have hsz : sizeLine = 16777216 := sizeLine_eq
    refine ⟨_, rfl, _, _, rfl, rfl, (n : Int) - 1, rfl, by omega, by omega, for_it walk_rangeN (fun i σ H' => ∃ (y : Option V) (x : Nat), σ = [some (.int (n : Int)), some (.int (k : Int)), some (.int (x : Int)), y] ∧ H' = H ∧ sureN k i = some x) ⟨none, 1, rfl, rfl, rfl⟩ (fun _ _ _ _ _ => trivial) ?_ ?_⟩
    · rintro i v σ H2 H3 hi ⟨y, x, rfl, rfl, hx⟩ ⟨rfl, rfl⟩
      have hi : i + 1 < n := by omega
      obtain ⟨c0, c1, c2⟩ := sureN_lt k0 k1 (by omega) hx
      refine ⟨_, rfl, _, _, rfl, rfl, _, rfl, _, rfl, k, x, rfl, k0, k1, c2, fun hb => ?_, fun hs => ?_⟩
      · have := sureN_none (sureN_big hx hb) (n - 1 - (i + 1))
        rw [show i + 1 + (n - 1 - (i + 1)) = n - 1 by omega] at this
        exact kn this
      · refine ⟨_, _, rfl, rfl, _, _, rfl, rfl, .inl ⟨by omega, by omega⟩, _, _, rfl, rfl, some (vN i), (x + 1) * (k ^ x + 1) - 1, ?_, rfl, sureN_step hx hs⟩
        have hp : 1 ≤ (x + 1) * (k ^ x + 1) := Nat.mul_pos (by omega) (by omega)
        rw [Int.natCast_sub hp, Int.natCast_mul, Int.natCast_add, Int.natCast_add]
        rfl
    · rintro σ H2 ⟨y, x, rfl, rfl, hx⟩
      rw [show ((n : Int) - 1).toNat = n - 1 by omega] at hx
      obtain ⟨c0, c1, c2⟩ := sureN_lt k0 k1 (by omega) hx
      refine ⟨_, rfl, x, rfl, Nat.lt_of_lt_of_le c1 (Nat.pow_le_pow_right (by decide) (by decide)), _, rfl, iteF ⟨_, rfl, kv x hx⟩⟩

/-! ### _law_error -/
def errTab (A : Ad) : List Addr := [A.c_InvalidPattern, A.c_InvalidLetters, A.c_InvalidWord, A.c_InvalidNumber, A.c_InvalidChain, A.c_NotSure, A.c_TooShort, A.c_TooLarge, A.c_TooLong]
def errNames : List Str := ["pattern", "letters", "word", "number", "chain", "not sure", "short", "large", "long"]
def sp_law_error (K : PySem.W.Frag) (A : Ad) : Sp := fun vs H Q _ => ∃ (a D : Addr) (j : Nat), vs = [.ref a] ∧ H a = some (ExcO (.ref D) none a) ∧ Exn K D A.c_PatternError ∧ Kinds K D (errTab A) j ∧ j < 9 ∧
  ∀ H', Same H H' → Q (.str (errNames[j]?.getD default)) H'
theorem ok_law_error (T : Txt K mg A) : FnOk P w K mg base CX0 1 A.f_law_error A.d_law_error ["caught"] (sp_law_error K A) := by
  refine T.F_law_error.ok sc_law_error (fun vs H Q E h => ?_) (fun cdv A' outer s H vs Q E hr h => ?_)
  · obtain ⟨a, D, j, rfl, _⟩ := h
    rfl
  · obtain ⟨a, D, j, rfl, ha, X, hk, hj, k⟩ := h
    refine ⟨_, (pss_cons (ps_set (i := 1) sc_law_error.nd rfl (by first | exact Or.inl rfl | exact Or.inr rfl) (pe_lst (pa_cons (pe_callB (call_isOK (K := K)) (by rfl) T.isinstance PyProof.Rows.boot_isinstance (pa_cons (pv 0) (pa_cons (pe_glob (v := .ref A.c_InvalidPattern) (by rfl) T.g_InvalidPattern rfl) pa_nil))) (pa_cons (pe_callB (call_isOK (K := K)) (by rfl) T.isinstance PyProof.Rows.boot_isinstance (pa_cons (pv 0) (pa_cons (pe_glob (v := .ref A.c_InvalidLetters) (by rfl) T.g_InvalidLetters rfl) pa_nil))) (pa_cons (pe_callB (call_isOK (K := K)) (by rfl) T.isinstance PyProof.Rows.boot_isinstance (pa_cons (pv 0) (pa_cons (pe_glob (v := .ref A.c_InvalidWord) (by rfl) T.g_InvalidWord rfl) pa_nil))) pa_nil)))))
  (pss_cons (ps_set (i := 1) sc_law_error.nd rfl (by first | exact Or.inl rfl | exact Or.inr rfl) (pe_op op_cat (pv 1) (pe_lst (pa_cons (pe_callB (call_isOK (K := K)) (by rfl) T.isinstance PyProof.Rows.boot_isinstance (pa_cons (pv 0) (pa_cons (pe_glob (v := .ref A.c_InvalidNumber) (by rfl) T.g_InvalidNumber rfl) pa_nil))) (pa_cons (pe_callB (call_isOK (K := K)) (by rfl) T.isinstance PyProof.Rows.boot_isinstance (pa_cons (pv 0) (pa_cons (pe_glob (v := .ref A.c_InvalidChain) (by rfl) T.g_InvalidChain rfl) pa_nil))) (pa_cons (pe_callB (call_isOK (K := K)) (by rfl) T.isinstance PyProof.Rows.boot_isinstance (pa_cons (pv 0) (pa_cons (pe_glob (v := .ref A.c_NotSure) (by rfl) T.g_NotSure rfl) pa_nil))) pa_nil))))))
  (pss_cons (ps_set (i := 1) sc_law_error.nd rfl (by first | exact Or.inl rfl | exact Or.inr rfl) (pe_op op_cat (pv 1) (pe_lst (pa_cons (pe_callB (call_isOK (K := K)) (by rfl) T.isinstance PyProof.Rows.boot_isinstance (pa_cons (pv 0) (pa_cons (pe_glob (v := .ref A.c_TooShort) (by rfl) T.g_TooShort rfl) pa_nil))) (pa_cons (pe_callB (call_isOK (K := K)) (by rfl) T.isinstance PyProof.Rows.boot_isinstance (pa_cons (pv 0) (pa_cons (pe_glob (v := .ref A.c_TooLarge) (by rfl) T.g_TooLarge rfl) pa_nil))) (pa_cons (pe_callB (call_isOK (K := K)) (by rfl) T.isinstance PyProof.Rows.boot_isinstance (pa_cons (pv 0) (pa_cons (pe_glob (v := .ref A.c_TooLong) (by rfl) T.g_TooLong rfl) pa_nil))) pa_nil))))))
  (pss_cons (ps_set (i := 2) sc_law_error.nd rfl (by first | exact Or.inl rfl | exact Or.inr rfl) (pe_lst (pa_cons pe_str (pa_cons pe_str (pa_cons pe_str (pa_cons pe_str (pa_cons pe_str (pa_cons pe_str (pa_cons pe_str (pa_cons pe_str (pa_cons pe_str pa_nil)))))))))))
  (pss_one (ps_ret (pe_ifExp (PW.pt (pw_and (pt_cmpR op_eq (pe_bm PySem.F.plainAttrs_list PySem.F.slot_list_count PySem.F.type_list_count mt_countB (pv 1) (pa_cons pe_bl pa_nil)) pe_int (nomark _)) (pw_and1 (pt_val (pe_callB (call_isOK (K := K)) (by rfl) T.isinstance PyProof.Rows.boot_isinstance (pa_cons (pv 0) (pa_cons (pe_bltn (v := .ty "ValueError") (by rfl) T.ValueError (by decide +kernel) rfl) pa_nil))))))) (pe_ix (ix_listK (K := K)) (pv 2) (pe_bm PySem.F.plainAttrs_list PySem.F.slot_list_index PySem.F.type_list_index mt_index (pv 1) (pa_cons pe_bl pa_nil)) (fun _ _ => rfl)) pe_str))))))), ?_⟩
    refine ⟨_, rfl, a, D, _, _, _, rfl, ha, X.i, fun _ r => r, hk 0 _ rfl, _, rfl, a, D, _, _, _, rfl, ha, X.i, fun _ r => r, hk 1 _ rfl, _, rfl, a, D, _, _, _, rfl, ha, X.i, fun _ r => r, hk 2 _ rfl, (by show 3 ≤ sizeLine; decide), ?_⟩
    walk_at "n1"
    have ha1 := S1 _ _ ha
    have SS1 := S1
    refine ⟨_, rfl, _, rfl, a, D, _, _, _, rfl, ha1, X.i, fun _ r => r, hk 3 _ rfl, _, rfl, a, D, _, _, _, rfl, ha1, X.i, fun _ r => r, hk 4 _ rfl, _, rfl, a, D, _, _, _, rfl, ha1, X.i, fun _ r => r, hk 5 _ rfl, (by show 3 ≤ sizeLine; decide), ?_⟩
    walk_at "n2"
    refine ⟨l1, l2, _, _, rfl, rfl, S2 _ _ e1, e2, (by show 3 + 3 ≤ sizeLine; decide), ?_⟩
    walk_at "n3"
    have ha3 := S3 _ _ (S2 _ _ ha1)
    have SS3 := (SS1.trans S2).trans S3
    refine ⟨_, rfl, _, rfl, a, D, _, _, _, rfl, ha3, X.i, fun _ r => r, hk 6 _ rfl, _, rfl, a, D, _, _, _, rfl, ha3, X.i, fun _ r => r, hk 7 _ rfl, _, rfl, a, D, _, _, _, rfl, ha3, X.i, fun _ r => r, hk 8 _ rfl, (by show 3 ≤ sizeLine; decide), ?_⟩
    walk_at "n4"
    refine ⟨l3, l4, _, _, rfl, rfl, S4 _ _ e3, e4, (by show 6 + 3 ≤ sizeLine; decide), ?_⟩
    walk_at "n5"
    have ha5 := S5 _ _ (S4 _ _ ha3)
    have SS5 := (SS3.trans S4).trans S5
    have eG : H5 l5 = some (.lst (((List.range 9).map fun i => decide (i = j)).map V.bl)) := e5
    -- names
    refine ⟨(by show 9 ≤ sizeLine; decide), ?_⟩
    walk_at "n6"
    have e6' : H6 l6 = some (.lst (errNames.map V.str)) := e6
    have eb := S6 _ _ eG
    have ha6 := S6 _ _ ha5
    -- the answer
    refine ⟨_, rfl, .inl ⟨rfl, _, SqL.of eb⟩, l5, _, true, rfl, rfl, SqL.of eb, rfl, _, rfl, ?_⟩
    rw [bits_one 9 j hj]
    refine iteT ⟨_, rfl, a, D, _, _, _, rfl, ha6, X.i, fun _ r => r, X.v, _, rfl, iteT ?_⟩
    have bat : ∀ m, m < 9 → (((List.range 9).map fun i => decide (i = j)).map V.bl)[m]? = some (.bl (decide (m = j))) := fun m hm => by
      rw [List.getElem?_map, List.getElem?_map, List.getElem?_range hm]
      rfl
    refine ⟨_, rfl, _, rfl, .inl ⟨rfl, _, SqL.of eb⟩, l5, _, .bl true, j, .bl (decide (j = j)), rfl, rfl, SqL.of eb, rfl, ?_, bat j hj, ?_, ?_, ?_⟩
    · exact List.all_eq_true.mpr fun x hx => by
        obtain ⟨b, _, rfl⟩ := List.mem_map.mp hx
        rfl
    · rw [decide_eq_true rfl]; rfl
    · intro m z hm hz
      rw [bat m (by omega)] at hz
      cases hz
      rw [decide_eq_false (by omega)]
      rfl
    · have hjn : errNames[j]? = some (errNames[j]?.getD default) := by
        rw [List.getElem?_eq_getElem (show j < errNames.length from hj)]
        rfl
      refine ⟨l6, _, _, .str (errNames[j]?.getD default), rfl, rfl, SqL.of e6', atI_nat (by rw [List.getElem?_map, hjn]; rfl), ?_⟩
      exact k H6 (SS5.trans S6)

/-! ### _law_told -/
set_option hygiene false in
local macro_rules | `(tactic| walk_at "told") => `(tactic| (
  refine ⟨_, rfl, _, rfl, (by show 2 ≤ sizeLine; decide), ?_⟩
  walk_at "n8"
  refine ⟨.ref l8, .tuple [d, e], rfl, .tup (SqT.of e8) (.cons (dp_same (SX.trans S8) d x hd) (.cons (dp_same (SX.trans S8) e y he) .nil)), shw.ok, shw.dp, shw.sz, _, rfl, rfl, _, rfl, iteNS rfl ?_⟩))
def dueV (k i : Nat) : V := match sureN k i with | some x => .int (x : Int) | none => .str "large"
def told45 (d e : PyData) : V := if inRange d 1 10 && inRange e 1 26 then (match d, e with | .int n, .int k => dueV k.toNat (n.toNat - 1) | _, _ => .non) else .str "number"
theorem told_in {n k : Nat} (n0 : 1 ≤ n) (n1 : n ≤ 10) (k0 : 1 ≤ k) (k1 : k ≤ 26) : told45 (.int (n : Int)) (.int (k : Int)) = dueV k (n - 1) := by
  have a1 : inRange (.int (n : Int)) 1 10 = true := by
    show (decide ((1 : Int) ≤ n) && decide ((n : Int) ≤ 10)) = true
    rw [decide_eq_true (by omega), decide_eq_true (by omega)]
    rfl
  have a2 : inRange (.int (k : Int)) 1 26 = true := by
    show (decide ((1 : Int) ≤ k) && decide ((k : Int) ≤ 26)) = true
    rw [decide_eq_true (by omega), decide_eq_true (by omega)]
    rfl
  unfold told45
  rw [a1, a2]
  rfl
def sp_law_told (K : PySem.W.Frag) : Sp := fun vs H Q _ => ∃ (x y : V) (d e : PyData), vs = [x, y] ∧ Dp K H x d ∧ Dp K H y e ∧ Lite 50 20000 d ∧ Lite 50 20000 e ∧ ∀ H', Same H H' → Q (told45 d e) H'
theorem ok_law_told (T : Txt K mg A) : FnG P w K mg base CX0 5 A.f_law_told A.d_law_told ["number", "letters"] (sp_law_told K) := by
  refine T.F_law_told.okG sc_law_told (fun vs H Q E h => ?_) (fun cdv A' outer s H vs Q E hgd hr h => ?_)
  · obtain ⟨x, y, d, e, rfl, _⟩ := h
    rfl
  · obtain ⟨x, y, d, e, rfl, hd, he, hL, hM, k⟩ := h
    have shw : Shows (.tuple [d, e]) := (lite_tup (D := 50) (k := 20000) (m := 100000) (ds := [d, e]) (fun x hx => by
      rcases List.mem_cons.mp hx with rfl | hx
      · exact hL
      · rw [List.mem_singleton] at hx; subst hx; exact hM) (show 2 * 20001 ≤ 100000 by decide)).shows (by decide) (by decide)
    refine ⟨_, (pss_cons (ps_asg (pe_tup (pa_cons pe_non (pa_cons pe_non pa_nil))) (pg_tup (by rfl) (pgs_cons (pg_name (i := 2) sc_law_told.nd rfl (by first | exact Or.inl rfl | exact Or.inr rfl)) (pgs_cons (pg_name (i := 3) sc_law_told.nd rfl (by first | exact Or.inl rfl | exact Or.inr rfl)) pgs_nil))))
  (pss_cons (ps_set (i := 4) sc_law_told.nd rfl (by first | exact Or.inl rfl | exact Or.inr rfl) (pe_callB (call_reprK hgd (un66 hr)) (by rfl) T.repr (by decide +kernel) (pa_cons (pe_tup (pa_cons (pv 0) (pa_cons (pv 1) pa_nil))) pa_nil)))
  (pss_cons (ps_try_keep (i := 5) (Wout := fun _ _ _ _ => False) rfl rfl sc_law_told.nd rfl rfl ⟨rfl, by decide, Or.inl T.g_PatternError⟩ takes0 (fun W pn xe tk _ => (pss_one (ps_set (i := 3) sc_law_told.nd rfl (by first | exact Or.inl rfl | exact Or.inr rfl) (pe_callS (ok_sure_length T) hr (by rfl) T.g_sure_length T.F_sure_length.kp T.b_sure_length (fun σ => passAt tk σ) (pa_cons (pv 0) (pa_cons (pv 1) pa_nil)))))) (fun a oe cls d pn hz hf => (pss_one (ps_set (i := 2) sc_law_told.nd rfl (by first | exact Or.inl rfl | exact Or.inr rfl) (pv 5)))))
  (pss_cons (ps_if (pt_cmpR op_ne (pe_callB (call_reprK hgd (un66 hr)) (by rfl) T.repr (by decide +kernel) (pa_cons (pe_tup (pa_cons (pv 0) (pa_cons (pv 1) pa_nil))) pa_nil)) (pv 4) (nomark _)) (pss_one (ps_ret pe_str)) pss_nil)
  (pss_one (ps_ret (pe_ifExp (pt_cmpR op_isN (pv 2) pe_non (nomark _)) (pv 3) (pe_call (ok_law_error T) (hr.mono (by decide)) (by rfl) T.g_law_error T.F_law_error.kp T.b_law_error .nil pass0 (pa_cons (pv 2) pa_nil))))))))), ?_⟩
    refine ⟨(by show 2 ≤ sizeLine; decide), ?_⟩
    walk_at "n1"
    refine ⟨l1, _, rfl, .inl (.inl e1), rfl, _, _, rfl, _, _, rfl, rfl, ?_⟩
    refine ⟨_, rfl, _, rfl, (by show 2 ≤ sizeLine; decide), ?_⟩
    walk_at "n2"
    have SS := S1.trans S2
    refine ⟨.ref l2, .tuple [d, e], rfl, .tup (SqT.of e2) (.cons (dp_same SS d x hd) (.cons (dp_same SS e y he) .nil)), shw.ok, shw.dp, shw.sz, ?_⟩
    refine ⟨_, rfl, _, rfl, x, y, d, e, rfl, dp_same SS d x hd, dp_same SS e y he, fun q1 => ?_, fun n m d0 e0 n0 n1 k0 k1 => ⟨fun v hv => ?_, fun hv => ?_⟩⟩
    · have k : ∀ H', Same H H' → Q (.str "number") H' := fun H' z => by
        have := k H' z
        unfold told45 at this
        rw [q1] at this
        exact this
      refine ⟨true, T.x_InvalidNumber.m, fun _ a ha => ⟨_, rfl, fun _ => ?_⟩, fun z => nomatch z⟩
      generalize h4 : upd _ a _ = H4
      obtain ⟨S4, e4⟩ := nw h4 ha
      clear h4
      have SX := SS.trans S4
      walk_at "told"
      exact ⟨_, rfl, rfl, _, rfl, iteF ⟨_, rfl, a, A.c_InvalidNumber, 3, rfl, S8 _ _ e4, T.x_InvalidNumber, T.q_InvalidNumber, by decide, fun H' z => k H' ((SX.trans S8).trans z)⟩⟩
    · have kq : ∀ H', Same H H' → Q (.int (v : Int)) H' := fun H' z => by
        have := k H' z
        rw [d0, e0, told_in n0 n1 k0 k1] at this
        unfold dueV at this
        rw [hv] at this
        exact this
      have SX := SS
      walk_at "told"
      exact ⟨_, rfl, rfl, _, rfl, iteT ⟨_, rfl, kq _ (SX.trans S8)⟩⟩
    · have kq : ∀ H', Same H H' → Q (.str "large") H' := fun H' z => by
        have := k H' z
        rw [d0, e0, told_in n0 n1 k0 k1] at this
        unfold dueV at this
        rw [hv] at this
        exact this
      refine ⟨true, T.x_TooLarge.m, fun _ a ha => ⟨_, rfl, fun _ => ?_⟩, fun z => nomatch z⟩
      generalize h4 : upd _ a _ = H4
      obtain ⟨S4, e4⟩ := nw h4 ha
      clear h4
      have SX := SS.trans S4
      walk_at "told"
      exact ⟨_, rfl, rfl, _, rfl, iteF ⟨_, rfl, a, A.c_TooLarge, 7, rfl, S8 _ _ e4, T.x_TooLarge, T.q_TooLarge, by decide, fun H' z => kq H' ((SX.trans S8).trans z)⟩⟩

/-! ### _law_due -/
def sp_law_due : Sp := fun vs H Q _ => ∃ n k : Nat, vs = [.int (n : Int), .int (k : Int), .int ((10 ^ 1000 : Nat) : Int)] ∧ 1 ≤ n ∧ n ≤ 10 ∧ 1 ≤ k ∧ k ≤ 26 ∧ Q (dueV k (n - 1)) H
theorem ok_law_due (T : Txt K mg A) : FnOk P w K mg base CX0 1 A.f_law_due A.d_law_due ["number", "letters", "limit"] sp_law_due := by
  refine T.F_law_due.ok sc_law_due (fun vs H Q E h => ?_) (fun cdv A' outer s H vs Q E hr h => ?_)
  · obtain ⟨n, k, rfl, _⟩ := h
    rfl
  · obtain ⟨n, k, rfl, n0, n1, k0, k1, kq⟩ := h
    refine ⟨_, (pss_cons (ps_set (i := 3) sc_law_due.nd rfl (by first | exact Or.inl rfl | exact Or.inr rfl) pe_int)
  (pss_cons (ps_for PassesOwn.never rfl (pi_rangeL (by rfl) T.range (pa_cons (pe_op op_sub (pv 0) pe_int) pa_nil)) (pg_name (i := 4) sc_law_due.nd rfl (by first | exact Or.inl rfl | exact Or.inr rfl)) (pss_cons (ps_set (i := 5) sc_law_due.nd rfl (by first | exact Or.inl rfl | exact Or.inr rfl) pe_int)
  (pss_cons (ps_for PassesOwn.never rfl (pi_rangeL (by rfl) T.range (pa_cons (pe_ifExp (pt_cmpR op_gt (pv 1) pe_int (nomark _)) (pv 3) pe_int) pa_nil)) (pg_name (i := 6) sc_law_due.nd rfl (by first | exact Or.inl rfl | exact Or.inr rfl)) (pss_cons (ps_set (i := 5) sc_law_due.nd rfl (by first | exact Or.inl rfl | exact Or.inr rfl) (pe_op op_mul (pv 5) (pv 1)))
  (pss_one (ps_if (pt_cmpR op_gt (pv 5) (pv 2) (nomark _)) (pss_one (ps_ret pe_str)) pss_nil))))
  (pss_one (ps_set (i := 3) sc_law_due.nd rfl (by first | exact Or.inl rfl | exact Or.inr rfl) (pe_op op_sub (pe_op op_mul (pe_op op_add (pv 3) pe_int) (pe_op op_add (pv 5) pe_int)) pe_int))))))
  (pss_one (ps_ret (pe_ifExp (pt_cmpR op_lt (pv 3) (pv 2) (nomark _)) (pv 3) pe_str))))), ?_⟩
    have hlim : 2 ^ 1900 < 10 ^ 1000 := by decide +kernel
    have hlim2 : 10 ^ 1000 < 2 ^ 4000 := by decide +kernel
    generalize 10 ^ 1000 = lim at *
    refine ⟨_, rfl, _, _, rfl, rfl, (n : Int) - 1, rfl, for_it walk_rangeN (fun i σ H' => ∃ (y4 y5 y6 : Option V) (x : Nat), σ = [some (.int (n : Int)), some (.int (k : Int)), some (.int (lim : Int)), some (.int (x : Int)), y4, y5, y6] ∧ H' = H ∧ sureN k i = some x) ⟨none, none, none, 1, rfl, rfl, rfl⟩ (fun _ _ _ _ _ => trivial) ?_ ?_⟩
    · rintro i v σ H2 H3 hi ⟨y4, y5, y6, x, rfl, rfl, hx⟩ ⟨rfl, rfl⟩
      have hi : i + 1 < n := by omega
      obtain ⟨c0, c1, c2⟩ := sureN_lt k0 k1 (by omega) hx
      have step : ∀ (y6 : Option V), x ≤ 4000 → tAsg (tOp (rI0 fun i j => V.int (i - j)) (tOp (rI CMul fun i j => V.int (i * j)) (tOp (rI0 fun i j => V.int (i + j)) (tVar 3) (tC (V.int 1))) (tOp (rI0 fun i j => V.int (i + j)) (tVar 5) (tC (V.int 1)))) (tC (V.int 1))) (gName 3)
          { nx := fun σ H' => ∃ (y4 y5 y6 : Option V) (x : Nat), σ = [some (.int (n : Int)), some (.int (k : Int)), some (.int (lim : Int)), some (.int (x : Int)), y4, y5, y6] ∧ H' = H3 ∧ sureN k (i + 1) = some x, rt := Q } [some (.int (n : Int)), some (.int (k : Int)), some (.int (lim : Int)), some (.int (x : Int)), some (vN i), some (.int ((k ^ x : Nat) : Int)), y6] H3 := by
        intro y6 hs
        refine ⟨_, rfl, _, _, rfl, rfl, _, rfl, _, _, rfl, rfl, _, _, rfl, rfl, .inl ⟨by omega, by omega⟩, _, _, rfl, rfl, some (vN i), some (.int ((k ^ x : Nat) : Int)), y6, (x + 1) * (k ^ x + 1) - 1, ?_, rfl, sureN_step hx hs⟩
        have hp : 1 ≤ (x + 1) * (k ^ x + 1) := Nat.mul_pos (by omega) (by omega)
        rw [Int.natCast_sub hp, Int.natCast_mul, Int.natCast_add, Int.natCast_add]
        rfl
      refine ⟨_, rfl, _, _, rfl, rfl, _, rfl, ?_⟩
      dsimp only
      by_cases hk : 1 < k
      · rw [show decide ((1 : Int) < (k : Int)) = true from decide_eq_true (by omega)]
        refine iteT ⟨_, rfl, (x : Int), rfl, for_it (D := { nx := _, rt := Q, bk := fun _ _ => True, ct := fun _ _ => True }) walk_rangeN (fun j σ H' => ∃ y6 : Option V, σ = [some (.int (n : Int)), some (.int (k : Int)), some (.int (lim : Int)), some (.int (x : Int)), some (vN i), some (.int ((k ^ j : Nat) : Int)), y6] ∧ H' = H3 ∧ k ^ j ≤ lim) ⟨y6, rfl, rfl, by rw [Nat.pow_zero]; omega⟩ (fun _ _ _ _ _ => trivial) ?_ ?_⟩
        · rintro j v σ H4 H5 hj ⟨y6, rfl, rfl, hle⟩ ⟨rfl, rfl⟩
          have hj : j < x := by omega
          refine ⟨_, rfl, _, rfl, _, _, rfl, rfl, .inr ⟨by omega, by omega⟩, ?_⟩
          dsimp only
          rw [show ((k ^ j : Nat) : Int) * (k : Int) = ((k ^ (j + 1) : Nat) : Int) by rw [Nat.pow_succ, Int.natCast_mul]]
          refine ⟨_, rfl, _, rfl, _, _, rfl, rfl, _, rfl, ?_⟩
          dsimp only
          by_cases hq : lim < k ^ (j + 1)
          · rw [show decide ((lim : Int) < ((k ^ (j + 1) : Nat) : Int)) = true from decide_eq_true (by omega)]
            have hbig : 4000 < x := by
              rcases Nat.lt_or_ge 4000 x with h | h
              · exact h
              · have h1 := sureN_step hx h
                obtain ⟨_, d1, _⟩ := sureN_lt k0 k1 (by omega) h1
                have h2 : k ^ (j + 1) ≤ k ^ x := Nat.pow_le_pow_right (by omega) hj
                have h3 : k ^ x + 1 ≤ (x + 1) * (k ^ x + 1) := Nat.le_mul_of_pos_left _ (by omega)
                omega
            have hnone := sureN_none (sureN_big hx hbig) (n - 1 - (i + 1))
            rw [show i + 1 + (n - 1 - (i + 1)) = n - 1 by omega] at hnone
            unfold dueV at kq
            rw [hnone] at kq
            exact iteT kq
          · rw [show decide ((lim : Int) < ((k ^ (j + 1) : Nat) : Int)) = false from decide_eq_false (by omega)]
            refine iteF ?_
            exact ⟨_, rfl, rfl, by omega⟩
        · rintro σ H4 ⟨y6, rfl, rfl, hle⟩
          rw [Int.toNat_natCast] at hle ⊢
          have hs : x ≤ 4000 := by
            rcases Nat.lt_or_ge 4000 x with h | h
            · have h1 : 2 ^ 4000 ≤ k ^ 4000 := Nat.pow_le_pow_left (by omega) 4000
              have h2 : k ^ 4000 ≤ k ^ x := Nat.pow_le_pow_right (by omega) (by omega)
              generalize 2 ^ 4000 = B1 at *
              generalize k ^ 4000 = B2 at *
              omega
            · exact h
          exact step y6 hs
      · rw [show decide ((1 : Int) < (k : Int)) = false from decide_eq_false (by omega)]
        have hk1 : k = 1 := by omega
        refine iteF ⟨0, rfl, for_it (D := { nx := _, rt := Q, bk := fun _ _ => True, ct := fun _ _ => True }) walk_rangeN (fun j σ H' => ∃ y6 : Option V, σ = [some (.int (n : Int)), some (.int (k : Int)), some (.int (lim : Int)), some (.int (x : Int)), some (vN i), some (.int 1), y6] ∧ H' = H3) ⟨y6, rfl, rfl⟩ (fun _ _ _ _ _ => trivial) ?_ ?_⟩
        · rintro j v σ H4 H5 hj _ _
          exact absurd hj (by show ¬ j < 0; omega)
        · rintro σ H4 ⟨y6, rfl, rfl⟩
          have q := step y6 (c2 hk1)
          rw [hk1, Nat.one_pow] at q
          rw [hk1]
          exact q
    · rintro σ H2 ⟨y4, y5, y6, x, rfl, rfl, hx⟩
      rw [show ((n : Int) - 1).toNat = n - 1 by omega] at hx
      obtain ⟨c0, c1, c2⟩ := sureN_lt k0 k1 (by omega) hx
      refine ⟨_, rfl, _, rfl, _, _, rfl, rfl, _, rfl, ?_⟩
      dsimp only
      rw [show decide ((x : Int) < (lim : Int)) = true from decide_eq_true (by omega)]
      unfold dueV at kq
      rw [hx] at kq
      exact iteT ⟨_, rfl, kq⟩

/-! ### law -/
def dueD (k i : Nat) : PyData := match sureN k i with | some x => .int (x : Int) | none => .str "large"
theorem dueD_dp {K : PySem.W.Frag} {H : Hp} (k i : Nat) : Dp K H (dueV k i) (dueD k i) := by
  unfold dueV dueD
  cases sureN k i with
  | none => exact .str _
  | some x => exact .int _
theorem dueD_shows {k i : Nat} (k0 : 1 ≤ k) (k1 : k ≤ 26) (hi : i < 10) : Shows (dueD k i) := by
  unfold dueD
  cases h : sureN k i with
  | none => exact ⟨by decide +kernel, by decide +kernel, by decide +kernel⟩
  | some x =>
    have := (sureN_lt k0 k1 hi h).2.1
    exact shows_int (log2_of (k := 1900) (by show ((x : Int)).natAbs < _; rw [Int.natAbs_natCast]; exact this) (by decide) (by decide))
theorem dI_lite {n : Int} (h0 : 0 ≤ n) (h : n ≤ 100) : Lite 50 20000 (.int n) := by
  have : ∀ m : Fin 101, liteB 50 20000 (.int (m.val : Int)) = true := by decide +kernel
  have q := this ⟨n.toNat, by omega⟩
  simp only at q
  rw [Int.toNat_of_nonneg h0] at q
  exact lite_of q
theorem told_bad1 {d e : PyData} (h : inRange d 1 10 = false) : told45 d e = .str "number" := by
  unfold told45
  rw [h]
  rfl
theorem told_bad2 {d e : PyData} (h : inRange e 1 26 = false) : told45 d e = .str "number" := by
  unfold told45
  rw [h, Bool.and_false]
  rfl
theorem ok_law (T : Txt K mg A) : FnG P w K mg base CX0 6 A.f_law A.d_law ["script"] (spTop K) := by
  refine T.F_law.okG sc_law (fun vs H Q E h => ?_) (fun cdv A' outer s H vs Q E hgd hr h => ?_)
  · obtain ⟨a, ns, rfl, _⟩ := h
    rfl
  · obtain ⟨a, ns, rfl, hS, hn, k⟩ := h
    refine ⟨_, (pss_cons (ps_set (i := 1) sc_law.nd rfl (by first | exact Or.inl rfl | exact Or.inr rfl) (pe_call (ok_law_open T) (hr.mono (by decide)) (by rfl) T.g_law_open T.F_law_open.kp T.b_law_open .nil pass0 (pa_cons (pv 0) pa_nil)))
  (pss_cons (ps_set (i := 2) sc_law.nd rfl (by first | exact Or.inl rfl | exact Or.inr rfl) pe_int)
  (pss_cons (ps_for PassesOwn.never rfl (pi_range1 (by rfl) T.range (pa_cons pe_int pa_nil)) (pg_name (i := 3) sc_law.nd rfl (by first | exact Or.inl rfl | exact Or.inr rfl)) (pss_one (ps_set (i := 2) sc_law.nd rfl (by first | exact Or.inl rfl | exact Or.inr rfl) (pe_op op_mul pe_int (pv 2)))))
  (pss_cons (ps_for PassesOwn.never rfl (pi_range1 (by rfl) T.range (pa_cons pe_int pa_nil)) (pg_name (i := 4) sc_law.nd rfl (by first | exact Or.inl rfl | exact Or.inr rfl)) (pss_cons (ps_par (i := 5) (j := 6) (by rfl) sc_law.nd rfl rfl (by decide) rfl rfl (pa_cons (pe_op op_add pe_int (pe_call (ok_law_take T) (hr.mono (by decide)) (by rfl) T.g_law_take T.F_law_take.kp T.b_law_take .nil pass0 (pa_cons (pe_call (ok_law_anew T) (hr.mono (by decide)) (by rfl) T.g_law_anew T.F_law_anew.kp T.b_law_anew .nil pass0 (pa_cons (pv 1) pa_nil)) (pa_cons (pe_call (ok_law_one T) (hr.mono (by decide)) (by rfl) T.g_law_one T.F_law_one.kp T.b_law_one .nil pass0 (pa_cons (pv 1) (pa_cons (pe_lst (pa_cons pe_int (pa_cons pe_int (pa_cons pe_int pa_nil)))) pa_nil))) pa_nil)))) (pa_cons (pe_op op_add pe_int (pe_call (ok_law_take T) (hr.mono (by decide)) (by rfl) T.g_law_take T.F_law_take.kp T.b_law_take .nil pass0 (pa_cons (pv 1) (pa_cons pe_int pa_nil)))) pa_nil)) (by rfl))
  (pss_cons (ps_set (i := 6) sc_law.nd rfl (by first | exact Or.inl rfl | exact Or.inr rfl) (pe_call (ok_law_one T) (hr.mono (by decide)) (by rfl) T.g_law_one T.F_law_one.kp T.b_law_one .nil pass0 (pa_cons (pv 1) (pa_cons (pe_lst (pa_cons (pv 6) (pa_cons pe_int (pa_cons pe_int (pa_cons pe_int pa_nil))))) pa_nil))))
  (pss_one (ps_if (pt_cmpR op_ne (pe_callB (call_reprK hgd (un66 hr)) (by rfl) T.repr (by decide +kernel) (pa_cons (pe_callG (ok_law_told T) hgd hr (by rfl) T.g_law_told T.F_law_told.kp T.b_law_told (pa_cons (pv 5) (pa_cons (pv 6) pa_nil))) pa_nil)) (pe_callB (call_reprK hgd (un66 hr)) (by rfl) T.repr (by decide +kernel) (pa_cons (pe_call (ok_law_due T) (hr.mono (by decide)) (by rfl) T.g_law_due T.F_law_due.kp T.b_law_due .nil pass0 (pa_cons (pv 5) (pa_cons (pv 6) (pa_cons (pv 2) pa_nil)))) pa_nil)) (nomark _)) (pss_one (ps_ret pe_bl)) pss_nil)))))
  (pss_cons (ps_for PassesOwn.never rfl (pi_list (pe_lst (pa_cons pe_int (pa_cons (pe_un un_neg pe_int) (pa_cons pe_non (pa_cons pe_bl (pa_cons pe_bl (pa_cons pe_str (pa_cons (pe_tup (pa_cons pe_int pa_nil)) (pa_cons (pe_op op_pow pe_int pe_int) (pa_cons (pe_lst (pa_cons pe_int pa_nil)) pa_nil))))))))))) (pg_name (i := 7) sc_law.nd rfl (by first | exact Or.inl rfl | exact Or.inr rfl)) (pss_cons (ps_set (i := 8) sc_law.nd rfl (by first | exact Or.inl rfl | exact Or.inr rfl) (pe_op op_add pe_int (pe_call (ok_law_take T) (hr.mono (by decide)) (by rfl) T.g_law_take T.F_law_take.kp T.b_law_take .nil pass0 (pa_cons (pv 1) (pa_cons pe_int pa_nil)))))
  (pss_cons (ps_set (i := 9) sc_law.nd rfl (by first | exact Or.inl rfl | exact Or.inr rfl) (pe_lst (pa_cons (pe_callG (ok_law_told T) hgd hr (by rfl) T.g_law_told T.F_law_told.kp T.b_law_told (pa_cons (pv 7) (pa_cons pe_int pa_nil))) (pa_cons (pe_callG (ok_law_told T) hgd hr (by rfl) T.g_law_told T.F_law_told.kp T.b_law_told (pa_cons pe_int (pa_cons (pv 7) pa_nil))) (pa_cons (pe_callG (ok_law_told T) hgd hr (by rfl) T.g_law_told T.F_law_told.kp T.b_law_told (pa_cons (pv 7) (pa_cons (pv 7) pa_nil))) (pa_cons (pe_callG (ok_law_told T) hgd hr (by rfl) T.g_law_told T.F_law_told.kp T.b_law_told (pa_cons (pv 8) (pa_cons (pv 7) pa_nil))) (pa_cons (pe_callG (ok_law_told T) hgd hr (by rfl) T.g_law_told T.F_law_told.kp T.b_law_told (pa_cons pe_int (pa_cons (pv 7) pa_nil))) pa_nil)))))))
  (pss_cons (ps_set (i := 9) sc_law.nd rfl (by first | exact Or.inl rfl | exact Or.inr rfl) (pe_op op_cat (pv 9) (pe_lst (pa_cons (pe_callG (ok_law_told T) hgd hr (by rfl) T.g_law_told T.F_law_told.kp T.b_law_told (pa_cons pe_int (pa_cons (pv 7) pa_nil))) (pa_cons (pe_callG (ok_law_told T) hgd hr (by rfl) T.g_law_told T.F_law_told.kp T.b_law_told (pa_cons (pv 7) (pa_cons pe_int pa_nil))) (pa_cons (pe_callG (ok_law_told T) hgd hr (by rfl) T.g_law_told T.F_law_told.kp T.b_law_told (pa_cons (pv 7) (pa_cons pe_int pa_nil))) pa_nil))))))
  (pss_one (ps_if (pt_cmpR (op_neD hr.units) (pv 9) (pe_op op_rep (pe_lst (pa_cons pe_str pa_nil)) pe_int) (nomark _)) (pss_one (ps_ret pe_bl)) pss_nil))))))
  (pss_cons (ps_if (pt_cmpR op_ne (pe_callB (call_reprK hgd (un66 hr)) (by rfl) T.repr (by decide +kernel) (pa_cons (pe_callG (ok_law_told T) hgd hr (by rfl) T.g_law_told T.F_law_told.kp T.b_law_told (pa_cons pe_int (pa_cons pe_int pa_nil))) pa_nil)) (pe_callB (call_reprK hgd (un66 hr)) (by rfl) T.repr (by decide +kernel) (pa_cons (pe_call (ok_law_due T) (hr.mono (by decide)) (by rfl) T.g_law_due T.F_law_due.kp T.b_law_due .nil pass0 (pa_cons pe_int (pa_cons pe_int (pa_cons (pv 2) pa_nil)))) pa_nil)) (nomark _)) (pss_one (ps_ret pe_bl)) pss_nil)
  (pss_cons (ps_set (i := 9) sc_law.nd rfl (by first | exact Or.inl rfl | exact Or.inr rfl) (pe_lst (pa_cons (pe_callG (ok_law_told T) hgd hr (by rfl) T.g_law_told T.F_law_told.kp T.b_law_told (pa_cons pe_int (pa_cons pe_int pa_nil))) (pa_cons (pe_callG (ok_law_told T) hgd hr (by rfl) T.g_law_told T.F_law_told.kp T.b_law_told (pa_cons pe_int (pa_cons pe_int pa_nil))) (pa_cons (pe_callG (ok_law_told T) hgd hr (by rfl) T.g_law_told T.F_law_told.kp T.b_law_told (pa_cons pe_int (pa_cons pe_int pa_nil))) (pa_cons (pe_callG (ok_law_told T) hgd hr (by rfl) T.g_law_told T.F_law_told.kp T.b_law_told (pa_cons pe_int (pa_cons pe_int pa_nil))) pa_nil))))))
  (pss_cons (ps_set (i := 9) sc_law.nd rfl (by first | exact Or.inl rfl | exact Or.inr rfl) (pe_op op_cat (pv 9) (pe_lst (pa_cons (pe_callG (ok_law_told T) hgd hr (by rfl) T.g_law_told T.F_law_told.kp T.b_law_told (pa_cons pe_int (pa_cons pe_int pa_nil))) (pa_cons (pe_callG (ok_law_told T) hgd hr (by rfl) T.g_law_told T.F_law_told.kp T.b_law_told (pa_cons pe_int (pa_cons pe_int pa_nil))) pa_nil)))))
  (pss_one (ps_ret (pe_and (pe_cmpR (op_eqD hr.units) (pv 9) (pe_op op_rep (pe_lst (pa_cons pe_str pa_nil)) pe_int) (nomark _)) (pe_one (pe_cmpR op_eq (pe_callG (ok_law_told T) hgd hr (by rfl) T.g_law_told T.F_law_told.kp T.b_law_told (pa_cons pe_int (pa_cons pe_int pa_nil))) pe_str (nomark _)))))))))))))), ?_⟩
    refine ⟨_, rfl, a, ns, rfl, hS, hn, fun p c H1 S1 np nc P1 => ?_⟩
    -- limit
    refine ⟨1000, rfl, by decide, by decide, for_it walk_rangeN (fun i σ H' => ∃ y3 : Option V, σ = [some (.ref a), some (.ref p), some (.int ((10 ^ i : Nat) : Int)), y3, none, none, none, none, none, none] ∧ H' = H1)
      ⟨none, rfl, rfl⟩ (fun _ _ _ _ _ => trivial) ?_ ?_⟩
    · rintro i x σ H2 H3 hi ⟨y3, rfl, rfl⟩ ⟨rfl, rfl⟩
      refine ⟨_, rfl, _, _, rfl, rfl, .inl ⟨by decide, by decide⟩, some (vN i), ?_, rfl⟩
      rw [Nat.pow_succ, show ((10 ^ i * 10 : Nat) : Int) = 10 * ((10 ^ i : Nat) : Int) by omega]
      rfl
    rintro σ H2 ⟨y3, rfl, rfl⟩
    rw [show Int.toNat 1000 = 1000 from rfl]
    generalize hlim : 10 ^ 1000 = lim
    refine ⟨8, rfl, by decide, by decide, for_it walk_rangeN (fun i σ H' => ∃ y3 y4 y5 y6 y7 y8 y9, σ = [some (.ref a), some (.ref p), some (.int (lim : Int)), y3, y4, y5, y6, y7, y8, y9] ∧ Pen H' p c (i * 20))
      ⟨_, _, _, _, _, _, _, rfl, P1⟩ (fun _ _ _ _ _ => trivial) ?_ ?_⟩
    · rintro i x σ H3 H3' hi ⟨y3, y4, y5, y6, y7, y8, y9, rfl, P3⟩ ⟨rfl, rfl⟩
      replace hi : i < 8 := hi
      refine ⟨_, rfl, p, c, i * 20, rfl, P3, fun H4 B4 P4 => ⟨_, rfl, (by show 3 ≤ sizeLine; decide), ?_⟩⟩
      walk_at "n5"
      refine ⟨p, c, i * 20, .ref l5, rfl, P4.same S5, by omega, .inl ⟨l5, _, rfl, SqL.of e5, (P4.ne_free n5).1, (by show 0 < 3; decide), (by show 3 < 1073741824; decide), fun r v H6 hv B6 P6 => ?_⟩⟩
      obtain ⟨m, rfl, m0, m1⟩ : ∃ m : Nat, v = .int (m : Int) ∧ 0 < m ∧ m ≤ 10 := by
        have hm := List.mem_of_getElem? hv
        simp only [List.mem_cons, List.not_mem_nil, or_false] at hm
        rcases hm with rfl | rfl | rfl
        · exact ⟨3, rfl, by decide, by decide⟩
        · exact ⟨5, rfl, by decide, by decide⟩
        · exact ⟨10, rfl, by decide, by decide⟩
      refine ⟨p, c, i * 20 + 1, m, rfl, P6, by omega, m0, by omega, fun r7 H7 hr7 B7 P7 => ⟨_, _, rfl, rfl, ?_⟩⟩
      refine ⟨_, rfl, p, c, i * 20 + 2, 26, rfl, P7, by omega, by decide, by decide, fun r8 H8 hr8 B8 P8 => ⟨_, _, rfl, rfl, _, _, rfl, ?_⟩⟩
      refine ⟨_, rfl, _, rfl, (by show 4 ≤ sizeLine; decide), ?_⟩
      walk_at "n9"
      refine ⟨p, c, i * 20 + 3, .ref l9, rfl, P8.same S9, by omega, .inl ⟨l9, _, rfl, SqL.of e9, (P8.ne_free n9).1, (by show 0 < 4; decide), (by show 4 < 1073741824; decide), fun r v H10 hv B10 P10 => ?_⟩⟩
      obtain ⟨q, rfl, q0, q1⟩ : ∃ q : Nat, v = .int (q : Int) ∧ 1 ≤ q ∧ q ≤ 26 := by
        have hm := List.mem_of_getElem? hv
        simp only [List.mem_cons, List.not_mem_nil, or_false] at hm
        rcases hm with rfl | rfl | rfl | rfl
        · exact ⟨1 + r8, by rw [show ((1 + r8 : Nat) : Int) = 1 + (r8 : Int) by omega], by omega, by omega⟩
        · exact ⟨1, rfl, by decide, by decide⟩
        · exact ⟨2, rfl, by decide, by decide⟩
        · exact ⟨3, rfl, by decide, by decide⟩
      have shw : Shows (dueD q r7) := dueD_shows q0 q1 (by omega)
      have tld : told45 (.int (1 + (r7 : Int))) (.int (q : Int)) = dueV q r7 := by
        have := told_in (n := 1 + r7) (k := q) (by omega) (by omega) q0 q1
        rw [show ((1 + r7 : Nat) : Int) = 1 + (r7 : Int) by omega, show 1 + r7 - 1 = r7 by omega] at this
        exact this
      refine ⟨_, rfl, _, rfl, _, _, .int (1 + (r7 : Int)), .int (q : Int), rfl, .int _, .int _, dI_lite (by omega) (by omega), dI_lite (by omega) (by omega), fun H11 S11 => ?_⟩
      rw [tld]
      refine ⟨_, _, rfl, dueD_dp _ _, shw.ok, shw.dp, shw.sz, _, rfl, _, rfl, _, rfl, 1 + r7, q, ?_, by omega, by omega, q0, q1, ?_⟩
      · rw [hlim, show ((1 + r7 : Nat) : Int) = 1 + (r7 : Int) by omega]
        rfl
      · rw [show 1 + r7 - 1 = r7 by omega]
        refine ⟨_, _, rfl, dueD_dp _ _, shw.ok, shw.dp, shw.sz, rfl, _, rfl, iteNS rfl ?_⟩
        exact ⟨_, _, _, _, _, _, _, rfl, (P10.same S11).mono (by omega)⟩
    · rintro σ H3 ⟨y3, y4, y5, y6, y7, y8, y9, rfl, P3⟩
      refine ⟨_, rfl, (by show 1 ≤ sizeLine; decide), ?_⟩
      walk_at "n1"
      refine ⟨_, _, rfl, rfl, ⟨by decide, by decide, by decide⟩, (by show 1 ≤ sizeLine; decide), ?_⟩
      walk_at "n2"
      refine ⟨(by show 9 ≤ sizeLine; decide), ?_⟩
      walk_at "n4"
      have m1 : l1 ≠ p := (P3.ne_free n1).1
      have m2 : l2 ≠ p := ((P3.same S1).ne_free n2).1
      have o1 : off p H4 l1 = some (.tup [V.int 3]) := by unfold off; rw [if_neg m1]; exact S4 _ _ (S2 _ _ e1)
      have o2 : off p H4 l2 = some (.lst [V.int 2]) := by unfold off; rw [if_neg m2]; exact S4 _ _ e2
      have DV : DpAll K (off p H4) [V.int 0, V.int (-1), V.non, V.bl true, V.bl false, V.str "3", V.ref l1, V.int (10 ^ 20), V.ref l2]
          [.int 0, .int (-1), .none, .bool true, .bool false, .str "3", .tuple [.int 3], .int (10 ^ 20), .list [.int 2]] :=
        .cons (.int _) (.cons (.int _) (.cons .non (.cons (.bl _) (.cons (.bl _) (.cons (.str _) (.cons (.tup (SqT.of o1) (.cons (.int _) .nil)) (.cons (.int _) (.cons (.lst (SqL.of o2) (.cons (.int _) .nil)) .nil))))))))
      have hno : ∀ d ∈ ([.int 0, .int (-1), .none, .bool true, .bool false, .str "3", .tuple [.int 3], .int (10 ^ 20), .list [.int 2]] : List PyData), (inRange d 1 10 = false ∧ inRange d 1 26 = false ∧ liteB 50 20000 d = true) := by
        intro d hd
        simp only [List.mem_cons, List.not_mem_nil, or_false] at hd
        rcases hd with rfl | rfl | rfl | rfl | rfl | rfl | rfl | rfl | rfl <;> exact ⟨by decide +kernel, by decide +kernel, by decide +kernel⟩
      have e4' : H4 l4 = some (.lst [V.int 0, V.int (-1), V.non, V.bl true, V.bl false, V.str "3", V.ref l1, V.int (10 ^ 20), V.ref l2]) := e4
      have P4 := ((P3.same S1).same S2).same S4
      refine ⟨l4, rfl, ⟨_, SqL.of e4'⟩, for_it (walk_list (xs := [V.int 0, V.int (-1), V.non, V.bl true, V.bl false, V.str "3", V.ref l1, V.int (10 ^ 20), V.ref l2])) (fun j σ H' => ∃ y7 y8 y9, σ = [some (.ref a), some (.ref p), some (.int (lim : Int)), y3, y4, y5, y6, y7, y8, y9] ∧ But p H4 H' ∧ Pen H' p c (160 + j * 5))
        ⟨_, _, _, rfl, But.refl _ _, P4⟩ (fun j σ H' _ h => ?_) ?_ ?_⟩
      · obtain ⟨_, _, _, _, B, _⟩ := h
        exact SqL.of (B _ _ (P3.same S1 |>.same S2 |>.ne_free n4).1 e4')
      · rintro j x σ H5 H5' hj ⟨y7, y8, y9, rfl, B5, P5⟩ ⟨rfl, hx⟩
        have hj : j < 9 := hj
        obtain ⟨d, hd, hDx⟩ := dpAll_at DV hx
        obtain ⟨q1, q2, q3⟩ := hno d (List.mem_of_getElem? hd)
        refine ⟨_, rfl, p, c, 160 + j * 5, 10, rfl, P5, by omega, by decide, by decide, fun g H6 hg B6 P6 => ⟨_, _, rfl, rfl, ?_⟩⟩
        have hDo : Dp K (off p H6) x d := dp_same (B5.trans B6).off _ _ hDx
        have hD : Dp K H6 x d := dp_same (off_same p H6) _ _ hDo
        have hL := lite_of q3
        have L2 : Lite 50 20000 (.int 2) := dI_lite (by decide) (by decide)
        have L1 : Lite 50 20000 (.int 1) := dI_lite (by decide) (by decide)
        have L10 : Lite 50 20000 (.int 10) := dI_lite (by decide) (by decide)
        have L26 : Lite 50 20000 (.int 26) := dI_lite (by decide) (by decide)
        have Lg : Lite 50 20000 (.int (1 + (g : Int))) := dI_lite (by omega) (by omega)
        refine ⟨_, rfl, x, _, d, .int 2, rfl, hD, .int _, hL, L2, fun H7 S7 => ?_⟩
        rw [told_bad1 q1]
        refine ⟨_, rfl, _, x, .int 2, d, rfl, .int _, dp_same S7 _ _ hD, L2, hL, fun H8 S8 => ?_⟩
        rw [told_bad2 q2]
        have S78 := S7.trans S8
        refine ⟨_, rfl, _, rfl, x, x, d, d, rfl, dp_same S78 _ _ hD, dp_same S78 _ _ hD, hL, hL, fun H9 S9 => ?_⟩
        rw [told_bad1 q1]
        have S79 := S78.trans S9
        refine ⟨_, rfl, _, rfl, _, x, .int (1 + (g : Int)), d, rfl, .int _, dp_same S79 _ _ hD, Lg, hL, fun H10 S10 => ?_⟩
        rw [told_bad2 q2]
        have S710 := S79.trans S10
        refine ⟨_, rfl, _, x, .int 1, d, rfl, .int _, dp_same S710 _ _ hD, L1, hL, fun H11 S11 => ?_⟩
        rw [told_bad2 q2]
        have S711 := S710.trans S11
        refine ⟨(by show 5 ≤ sizeLine; decide), ?_⟩
        walk_at "n12"
        have S712 := S711.trans S12
        refine ⟨_, rfl, _, rfl, _, x, .int 10, d, rfl, .int _, dp_same S712 _ _ hD, L10, hL, fun H13 S13 => ?_⟩
        rw [told_bad2 q2]
        have S713 := S712.trans S13
        refine ⟨_, rfl, x, _, d, .int 1, rfl, dp_same S713 _ _ hD, .int _, hL, L1, fun H14 S14 => ?_⟩
        rw [told_bad1 q1]
        have S714 := S713.trans S14
        refine ⟨_, rfl, x, _, d, .int 26, rfl, dp_same S714 _ _ hD, .int _, hL, L26, fun H15 S15 => ?_⟩
        rw [told_bad1 q1]
        have S715 := S714.trans S15
        refine ⟨(by show 3 ≤ sizeLine; decide), ?_⟩
        walk_at "n16"
        refine ⟨l12, l16, _, _, rfl, rfl, S16 _ _ (S15 _ _ (S14 _ _ (S13 _ _ e12))), e16, (by show 5 + 3 ≤ sizeLine; decide), ?_⟩
        walk_at "n17"
        refine ⟨_, rfl, (by show 1 ≤ sizeLine; decide), ?_⟩
        walk_at "n18"
        refine ⟨l18, 8, _, rfl, rfl, e18, by decide, by decide, (by show 1 * 8 ≤ sizeLine; decide), ?_⟩
        walk_at "n19"
        refine ⟨.list (List.replicate 8 (.str "number")), .list (List.replicate 8 (.str "number")), .lst (SqL.of (S19 _ _ (S18 _ _ e17))) (.cons (.str _) (.cons (.str _) (.cons (.str _) (.cons (.str _) (.cons (.str _) (.cons (.str _) (.cons (.str _) (.cons (.str _) .nil)))))))),
          .lst (SqL.of e19) (.cons (.str _) (.cons (.str _) (.cons (.str _) (.cons (.str _) (.cons (.str _) (.cons (.str _) (.cons (.str _) (.cons (.str _) .nil)))))))), by decide +kernel, by decide +kernel, _, rfl, ?_⟩
        rw [show PyData.eqv (.list (List.replicate 8 (.str "number"))) (.list (List.replicate 8 (.str "number"))) = true by decide +kernel]
        refine iteF ?_
        have S719 := ((S715.trans S16).trans S17).trans (S18.trans S19)
        exact ⟨_, _, _, rfl, (B5.trans B6).trans (But.of_same S719), (P6.same S719).mono (by omega)⟩
      · rintro σ H5 ⟨y7, y8, y9, rfl, B5, P5⟩
        have L1 : Lite 50 20000 (.int 1) := dI_lite (by decide) (by decide)
        have L2 : Lite 50 20000 (.int 2) := dI_lite (by decide) (by decide)
        have L4 : Lite 50 20000 (.int 4) := dI_lite (by decide) (by decide)
        have L10 : Lite 50 20000 (.int 10) := dI_lite (by decide) (by decide)
        have L11 : Lite 50 20000 (.int 11) := dI_lite (by decide) (by decide)
        have L26 : Lite 50 20000 (.int 26) := dI_lite (by decide) (by decide)
        have L27 : Lite 50 20000 (.int 27) := dI_lite (by decide) (by decide)
        have shw : Shows (dueD 2 3) := dueD_shows (by decide) (by decide) (by decide)
        have t1 : told45 (.int 4) (.int 2) = dueV 2 3 := told_in (n := 4) (k := 2) (by decide) (by decide) (by decide) (by decide)
        have t2 : told45 (.int 10) (.int 26) = .str "large" := by
          rw [show told45 (.int 10) (.int 26) = dueV 26 9 from told_in (n := 10) (k := 26) (by decide) (by decide) (by decide) (by decide)]
          unfold dueV
          rw [show sureN 26 9 = none by decide +kernel]
        refine ⟨_, _, .int 4, .int 2, rfl, .int _, .int _, L4, L2, fun H6 S6 => ?_⟩
        rw [t1]
        refine ⟨_, _, rfl, dueD_dp _ _, shw.ok, shw.dp, shw.sz, _, rfl, 4, 2, ?_, by decide, by decide, by decide, by decide, ?_⟩
        · rw [hlim]
          rfl
        refine ⟨_, _, rfl, dueD_dp _ _, shw.ok, shw.dp, shw.sz, rfl, _, rfl, iteNS rfl ?_⟩
        refine ⟨_, _, .int 11, .int 2, rfl, .int _, .int _, L11, L2, fun H7 S7 => ?_⟩
        rw [told_bad1 (by decide +kernel)]
        refine ⟨_, _, .int 2, .int 27, rfl, .int _, .int _, L2, L27, fun H8 S8 => ?_⟩
        rw [told_bad2 (by decide +kernel)]
        refine ⟨_, _, .int 1, .int 27, rfl, .int _, .int _, L1, L27, fun H9 S9 => ?_⟩
        rw [told_bad2 (by decide +kernel)]
        refine ⟨_, _, .int 10, .int 27, rfl, .int _, .int _, L10, L27, fun H10 S10 => ?_⟩
        rw [told_bad2 (by decide +kernel)]
        refine ⟨(by show 4 ≤ sizeLine; decide), ?_⟩
        walk_at "n12"
        refine ⟨_, rfl, _, _, .int 11, .int 1, rfl, .int _, .int _, L11, L1, fun H13 S13 => ?_⟩
        rw [told_bad1 (by decide +kernel)]
        refine ⟨_, _, .int 11, .int 26, rfl, .int _, .int _, L11, L26, fun H14 S14 => ?_⟩
        rw [told_bad1 (by decide +kernel)]
        refine ⟨(by show 2 ≤ sizeLine; decide), ?_⟩
        walk_at "n16"
        refine ⟨l12, l16, _, _, rfl, rfl, S16 _ _ (S14 _ _ (S13 _ _ e12)), e16, (by show 4 + 2 ≤ sizeLine; decide), ?_⟩
        walk_at "n17"
        refine ⟨_, rfl, (by show 1 ≤ sizeLine; decide), ?_⟩
        walk_at "n18"
        refine ⟨l18, 6, _, rfl, rfl, e18, by decide, by decide, (by show 1 * 6 ≤ sizeLine; decide), ?_⟩
        walk_at "n19"
        refine ⟨.list (List.replicate 6 (.str "number")), .list (List.replicate 6 (.str "number")), .lst (SqL.of (S19 _ _ (S18 _ _ e17))) (.cons (.str _) (.cons (.str _) (.cons (.str _) (.cons (.str _) (.cons (.str _) (.cons (.str _) .nil)))))),
          .lst (SqL.of e19) (.cons (.str _) (.cons (.str _) (.cons (.str _) (.cons (.str _) (.cons (.str _) (.cons (.str _) .nil)))))), by decide +kernel, by decide +kernel, _, rfl, ?_⟩
        rw [show PyData.eqv (.list (List.replicate 6 (.str "number"))) (.list (List.replicate 6 (.str "number"))) = true by decide +kernel]
        refine iteT ⟨_, _, .int 10, .int 26, rfl, .int _, .int _, L10, L26, fun H20 S20 => ?_⟩
        rw [t2]
        refine ⟨rfl, ?_⟩
        rw [decide_eq_true rfl]
        exact k _

end

theorem all_mk {l : PySem.W.OpenLaw} {w : World} {K : PySem.W.Frag} {h : Heap} {mg : Str → Option Value} {fa : Addr} (X : K.In h) (G : h.Ns mainGlobals mg) (hfa : mg "law" = some (.ref fa))
    {f0 : Addr} {od0 an0 : Option Addr} {sl0 : Array (Option Value)} {oc0 kV0 dc0 pm0 cd0 ct0 : Value}
    {f1 : Addr} {od1 an1 : Option Addr} {sl1 : Array (Option Value)} {oc1 kV1 dc1 pm1 cd1 ct1 : Value}
    {f2 : Addr} {od2 an2 : Option Addr} {sl2 : Array (Option Value)} {oc2 kV2 dc2 pm2 cd2 ct2 : Value}
    {f3 : Addr} {od3 an3 : Option Addr} {sl3 : Array (Option Value)} {oc3 kV3 dc3 pm3 cd3 ct3 : Value}
    {f4 : Addr} {od4 an4 : Option Addr} {sl4 : Array (Option Value)} {oc4 kV4 dc4 pm4 cd4 ct4 : Value}
    {f5 : Addr} {od5 an5 : Option Addr} {sl5 : Array (Option Value)} {oc5 kV5 dc5 pm5 cd5 ct5 : Value}
    {f6 : Addr} {od6 an6 : Option Addr} {sl6 : Array (Option Value)} {oc6 kV6 dc6 pm6 cd6 ct6 : Value}
    {f7 : Addr} {od7 an7 : Option Addr} {sl7 : Array (Option Value)} {oc7 kV7 dc7 pm7 cd7 ct7 : Value}
    {f8 : Addr} {od8 an8 : Option Addr} {sl8 : Array (Option Value)} {oc8 kV8 dc8 pm8 cd8 ct8 : Value}
    {f9 : Addr} {od9 an9 : Option Addr} {sl9 : Array (Option Value)} {oc9 kV9 dc9 pm9 cd9 ct9 : Value}
    {f10 : Addr} {od10 an10 : Option Addr} {sl10 : Array (Option Value)} {oc10 kV10 dc10 pm10 cd10 ct10 : Value}
    {f11 : Addr} {od11 an11 : Option Addr} {sl11 : Array (Option Value)} {oc11 kV11 dc11 pm11 cd11 ct11 : Value}
    {f12 : Addr} {od12 an12 : Option Addr} {sl12 : Array (Option Value)} {oc12 kV12 dc12 pm12 cd12 ct12 : Value}
    {f13 : Addr} {od13 an13 : Option Addr} {sl13 : Array (Option Value)} {oc13 kV13 dc13 pm13 cd13 ct13 : Value}
    {f14 : Addr} {od14 an14 : Option Addr} {sl14 : Array (Option Value)} {oc14 kV14 dc14 pm14 cd14 ct14 : Value}
    {t_LAST_NUMBER : Tok}
    {t_MOST_DIGITS : Tok}
    {t_MOST_LETTERS : Tok}
    {c_InvalidChain : Addr}
    {c_InvalidLetters : Addr}
    {c_InvalidNumber : Addr}
    {c_InvalidPattern : Addr}
    {c_InvalidWord : Addr}
    {c_NotSure : Addr}
    {c_PatternError : Addr}
    {c_TooLarge : Addr}
    {c_TooLong : Addr}
    {c_TooShort : Addr}
    (a0 : PySem.W.nsIn K mainGlobals "_law_open" = some (some (.ref f0)))
    (l0 : K.lookup f0 = some ⟨oc0, od0, .func (PySem.W.fnOf "_law_open" "_law_open" (defArgs s_law_open) (defBody s_law_open) (defScope s_law_open) .none kV0 dc0 pm0 an0 cd0 ct0), sl0⟩)
    (c0 : PySem.W.codeIn K cd0 "_law_open" = true)
    (k0 : PySem.W.keepIn K (.ref f0) = true)
    (a1 : PySem.W.nsIn K mainGlobals "_law_anew" = some (some (.ref f1)))
    (l1 : K.lookup f1 = some ⟨oc1, od1, .func (PySem.W.fnOf "_law_anew" "_law_anew" (defArgs s_law_anew) (defBody s_law_anew) (defScope s_law_anew) .none kV1 dc1 pm1 an1 cd1 ct1), sl1⟩)
    (c1 : PySem.W.codeIn K cd1 "_law_anew" = true)
    (k1 : PySem.W.keepIn K (.ref f1) = true)
    (a2 : PySem.W.nsIn K mainGlobals "_law_spread" = some (some (.ref f2)))
    (l2 : K.lookup f2 = some ⟨oc2, od2, .func (PySem.W.fnOf "_law_spread" "_law_spread" (defArgs s_law_spread) (defBody s_law_spread) (defScope s_law_spread) .none kV2 dc2 pm2 an2 cd2 ct2), sl2⟩)
    (c2 : PySem.W.codeIn K cd2 "_law_spread" = true)
    (k2 : PySem.W.keepIn K (.ref f2) = true)
    (a3 : PySem.W.nsIn K mainGlobals "_law_take" = some (some (.ref f3)))
    (l3 : K.lookup f3 = some ⟨oc3, od3, .func (PySem.W.fnOf "_law_take" "_law_take" (defArgs s_law_take) (defBody s_law_take) (defScope s_law_take) .none kV3 dc3 pm3 an3 cd3 ct3), sl3⟩)
    (c3 : PySem.W.codeIn K cd3 "_law_take" = true)
    (k3 : PySem.W.keepIn K (.ref f3) = true)
    (a4 : PySem.W.nsIn K mainGlobals "_law_one" = some (some (.ref f4)))
    (l4 : K.lookup f4 = some ⟨oc4, od4, .func (PySem.W.fnOf "_law_one" "_law_one" (defArgs s_law_one) (defBody s_law_one) (defScope s_law_one) .none kV4 dc4 pm4 an4 cd4 ct4), sl4⟩)
    (c4 : PySem.W.codeIn K cd4 "_law_one" = true)
    (k4 : PySem.W.keepIn K (.ref f4) = true)
    (a5 : PySem.W.nsIn K mainGlobals "is_integer" = some (some (.ref f5)))
    (l5 : K.lookup f5 = some ⟨oc5, od5, .func (PySem.W.fnOf "is_integer" "is_integer" (defArgs s_is_integer) (defBody s_is_integer) (defScope s_is_integer) .none kV5 dc5 pm5 an5 cd5 ct5), sl5⟩)
    (c5 : PySem.W.codeIn K cd5 "is_integer" = true)
    (k5 : PySem.W.keepIn K (.ref f5) = true)
    (a6 : PySem.W.nsIn K mainGlobals "is_integer_from" = some (some (.ref f6)))
    (l6 : K.lookup f6 = some ⟨oc6, od6, .func (PySem.W.fnOf "is_integer_from" "is_integer_from" (defArgs s_is_integer_from) (defBody s_is_integer_from) (defScope s_is_integer_from) .none kV6 dc6 pm6 an6 cd6 ct6), sl6⟩)
    (c6 : PySem.W.codeIn K cd6 "is_integer_from" = true)
    (k6 : PySem.W.keepIn K (.ref f6) = true)
    (a7 : PySem.W.nsIn K mainGlobals "need_integer" = some (some (.ref f7)))
    (l7 : K.lookup f7 = some ⟨oc7, od7, .func (PySem.W.fnOf "need_integer" "need_integer" (defArgs s_need_integer) (defBody s_need_integer) (defScope s_need_integer) .none kV7 dc7 pm7 an7 cd7 ct7), sl7⟩)
    (c7 : PySem.W.codeIn K cd7 "need_integer" = true)
    (k7 : PySem.W.keepIn K (.ref f7) = true)
    (a8 : PySem.W.nsIn K mainGlobals "_power" = some (some (.ref f8)))
    (l8 : K.lookup f8 = some ⟨oc8, od8, .func (PySem.W.fnOf "_power" "_power" (defArgs s_power) (defBody s_power) (defScope s_power) .none kV8 dc8 pm8 an8 cd8 ct8), sl8⟩)
    (c8 : PySem.W.codeIn K cd8 "_power" = true)
    (k8 : PySem.W.keepIn K (.ref f8) = true)
    (a9 : PySem.W.nsIn K mainGlobals "_has_too_many_digits" = some (some (.ref f9)))
    (l9 : K.lookup f9 = some ⟨oc9, od9, .func (PySem.W.fnOf "_has_too_many_digits" "_has_too_many_digits" (defArgs s_has_too_many_digits) (defBody s_has_too_many_digits) (defScope s_has_too_many_digits) .none kV9 dc9 pm9 an9 cd9 ct9), sl9⟩)
    (c9 : PySem.W.codeIn K cd9 "_has_too_many_digits" = true)
    (k9 : PySem.W.keepIn K (.ref f9) = true)
    (a10 : PySem.W.nsIn K mainGlobals "sure_length" = some (some (.ref f10)))
    (l10 : K.lookup f10 = some ⟨oc10, od10, .func (PySem.W.fnOf "sure_length" "sure_length" (defArgs s_sure_length) (defBody s_sure_length) (defScope s_sure_length) .none kV10 dc10 pm10 an10 cd10 ct10), sl10⟩)
    (c10 : PySem.W.codeIn K cd10 "sure_length" = true)
    (k10 : PySem.W.keepIn K (.ref f10) = true)
    (a11 : PySem.W.nsIn K mainGlobals "_law_error" = some (some (.ref f11)))
    (l11 : K.lookup f11 = some ⟨oc11, od11, .func (PySem.W.fnOf "_law_error" "_law_error" (defArgs s_law_error) (defBody s_law_error) (defScope s_law_error) .none kV11 dc11 pm11 an11 cd11 ct11), sl11⟩)
    (c11 : PySem.W.codeIn K cd11 "_law_error" = true)
    (k11 : PySem.W.keepIn K (.ref f11) = true)
    (a12 : PySem.W.nsIn K mainGlobals "_law_told" = some (some (.ref f12)))
    (l12 : K.lookup f12 = some ⟨oc12, od12, .func (PySem.W.fnOf "_law_told" "_law_told" (defArgs s_law_told) (defBody s_law_told) (defScope s_law_told) .none kV12 dc12 pm12 an12 cd12 ct12), sl12⟩)
    (c12 : PySem.W.codeIn K cd12 "_law_told" = true)
    (k12 : PySem.W.keepIn K (.ref f12) = true)
    (a13 : PySem.W.nsIn K mainGlobals "_law_due" = some (some (.ref f13)))
    (l13 : K.lookup f13 = some ⟨oc13, od13, .func (PySem.W.fnOf "_law_due" "_law_due" (defArgs s_law_due) (defBody s_law_due) (defScope s_law_due) .none kV13 dc13 pm13 an13 cd13 ct13), sl13⟩)
    (c13 : PySem.W.codeIn K cd13 "_law_due" = true)
    (k13 : PySem.W.keepIn K (.ref f13) = true)
    (a14 : PySem.W.nsIn K mainGlobals "law" = some (some (.ref f14)))
    (l14 : K.lookup f14 = some ⟨oc14, od14, .func (PySem.W.fnOf "law" "law" (defArgs s_law) (defBody s_law) (defScope s_law) .none kV14 dc14 pm14 an14 cd14 ct14), sl14⟩)
    (c14 : PySem.W.codeIn K cd14 "law" = true)
    (k14 : PySem.W.keepIn K (.ref f14) = true)
    (z_LAST_NUMBER : PySem.W.nsIn K mainGlobals "LAST_NUMBER" = some (some (.int 10 t_LAST_NUMBER)))
    (z_MOST_DIGITS : PySem.W.nsIn K mainGlobals "MOST_DIGITS" = some (some (.int 1000 t_MOST_DIGITS)))
    (z_MOST_LETTERS : PySem.W.nsIn K mainGlobals "MOST_LETTERS" = some (some (.int 26 t_MOST_LETTERS)))
    (z_ValueError : PySem.W.nsIn K mainGlobals "ValueError" = some none)
    (z_bool : PySem.W.nsIn K mainGlobals "bool" = some none)
    (z_enumerate : PySem.W.nsIn K mainGlobals "enumerate" = some none)
    (z_int : PySem.W.nsIn K mainGlobals "int" = some none)
    (z_isinstance : PySem.W.nsIn K mainGlobals "isinstance" = some none)
    (z_len : PySem.W.nsIn K mainGlobals "len" = some none)
    (z_list : PySem.W.nsIn K mainGlobals "list" = some none)
    (z_range : PySem.W.nsIn K mainGlobals "range" = some none)
    (z_repr : PySem.W.nsIn K mainGlobals "repr" = some none)
    (z_InvalidChain : PySem.W.nsIn K mainGlobals "InvalidChain" = some (some (.ref c_InvalidChain)))
    (z_InvalidLetters : PySem.W.nsIn K mainGlobals "InvalidLetters" = some (some (.ref c_InvalidLetters)))
    (z_InvalidNumber : PySem.W.nsIn K mainGlobals "InvalidNumber" = some (some (.ref c_InvalidNumber)))
    (z_InvalidPattern : PySem.W.nsIn K mainGlobals "InvalidPattern" = some (some (.ref c_InvalidPattern)))
    (z_InvalidWord : PySem.W.nsIn K mainGlobals "InvalidWord" = some (some (.ref c_InvalidWord)))
    (z_NotSure : PySem.W.nsIn K mainGlobals "NotSure" = some (some (.ref c_NotSure)))
    (z_PatternError : PySem.W.nsIn K mainGlobals "PatternError" = some (some (.ref c_PatternError)))
    (z_TooLarge : PySem.W.nsIn K mainGlobals "TooLarge" = some (some (.ref c_TooLarge)))
    (z_TooLong : PySem.W.nsIn K mainGlobals "TooLong" = some (some (.ref c_TooLong)))
    (z_TooShort : PySem.W.nsIn K mainGlobals "TooShort" = some (some (.ref c_TooShort)))
    (y_pe1 : PySem.W.subIn K (.ref c_PatternError) (.type "BaseException") = some true)
    (y_pe2 : PySem.W.hasDictIn K c_PatternError = true)
    (y_pe3 : PySem.W.typeIn K (.ref c_PatternError) = some (.type "type"))
    (y_pe4 : PySem.W.specialIn K (.builtin "object.__class__") "__get__" = some (some (.builtin "getset_descriptor.__get__")))
    (y_pe5 : PySem.W.takesIn K (.builtin "object.__class__") = some true)
    (y_x_InvalidNumber : PySem.W.excIn K c_InvalidNumber [.type "ValueError", .type "Exception", .type "BaseException", .type "object"] "ValueError.__new__" = true)
    (y_k_InvalidNumber : PySem.W.keepIn K (.ref c_InvalidNumber) = true)
    (y_b_InvalidNumber : PySem.W.subIn K (.ref c_InvalidNumber) (.type "BaseException") = some true)
    (y_t_InvalidNumber : PySem.W.typeIn K (.ref c_InvalidNumber) = some (.type "type"))
    (y_s_InvalidNumber : PySem.W.subIn K (.ref c_InvalidNumber) (.ref c_PatternError) = some true)
    (y_hg_InvalidNumber : PySem.W.findIn K (.ref c_InvalidNumber) "__getattribute__" = some (some (.builtin "BaseException.__getattribute__")))
    (y_hk_InvalidNumber : PySem.W.findIn K (.ref c_InvalidNumber) "__getattr__" = some none)
    (y_hd_InvalidNumber : PySem.W.hasDictIn K c_InvalidNumber = true)
    (y_ha_InvalidNumber : PySem.W.findIn K (.ref c_InvalidNumber) "__class__" = some (some (.builtin "object.__class__")))
    (y_hm_InvalidNumber : PySem.W.mroIn K c_InvalidNumber (.type "object") = some true)
    (y_v_InvalidNumber : PySem.W.kitOne K (.ref c_InvalidNumber) (.type "ValueError") = some true)
    (y_p_InvalidNumber : PySem.W.kitOne K (.ref c_InvalidNumber) (.ref c_PatternError) = some true)
    (y_q_InvalidNumber_InvalidPattern : PySem.W.kitOne K (.ref c_InvalidNumber) (.ref c_InvalidPattern) = some false)
    (y_q_InvalidNumber_InvalidLetters : PySem.W.kitOne K (.ref c_InvalidNumber) (.ref c_InvalidLetters) = some false)
    (y_q_InvalidNumber_InvalidWord : PySem.W.kitOne K (.ref c_InvalidNumber) (.ref c_InvalidWord) = some false)
    (y_q_InvalidNumber_InvalidNumber : PySem.W.kitOne K (.ref c_InvalidNumber) (.ref c_InvalidNumber) = some true)
    (y_q_InvalidNumber_InvalidChain : PySem.W.kitOne K (.ref c_InvalidNumber) (.ref c_InvalidChain) = some false)
    (y_q_InvalidNumber_NotSure : PySem.W.kitOne K (.ref c_InvalidNumber) (.ref c_NotSure) = some false)
    (y_q_InvalidNumber_TooShort : PySem.W.kitOne K (.ref c_InvalidNumber) (.ref c_TooShort) = some false)
    (y_q_InvalidNumber_TooLarge : PySem.W.kitOne K (.ref c_InvalidNumber) (.ref c_TooLarge) = some false)
    (y_q_InvalidNumber_TooLong : PySem.W.kitOne K (.ref c_InvalidNumber) (.ref c_TooLong) = some false)
    (y_x_TooLarge : PySem.W.excIn K c_TooLarge [.type "ValueError", .type "Exception", .type "BaseException", .type "object"] "ValueError.__new__" = true)
    (y_k_TooLarge : PySem.W.keepIn K (.ref c_TooLarge) = true)
    (y_b_TooLarge : PySem.W.subIn K (.ref c_TooLarge) (.type "BaseException") = some true)
    (y_t_TooLarge : PySem.W.typeIn K (.ref c_TooLarge) = some (.type "type"))
    (y_s_TooLarge : PySem.W.subIn K (.ref c_TooLarge) (.ref c_PatternError) = some true)
    (y_hg_TooLarge : PySem.W.findIn K (.ref c_TooLarge) "__getattribute__" = some (some (.builtin "BaseException.__getattribute__")))
    (y_hk_TooLarge : PySem.W.findIn K (.ref c_TooLarge) "__getattr__" = some none)
    (y_hd_TooLarge : PySem.W.hasDictIn K c_TooLarge = true)
    (y_ha_TooLarge : PySem.W.findIn K (.ref c_TooLarge) "__class__" = some (some (.builtin "object.__class__")))
    (y_hm_TooLarge : PySem.W.mroIn K c_TooLarge (.type "object") = some true)
    (y_v_TooLarge : PySem.W.kitOne K (.ref c_TooLarge) (.type "ValueError") = some true)
    (y_p_TooLarge : PySem.W.kitOne K (.ref c_TooLarge) (.ref c_PatternError) = some true)
    (y_q_TooLarge_InvalidPattern : PySem.W.kitOne K (.ref c_TooLarge) (.ref c_InvalidPattern) = some false)
    (y_q_TooLarge_InvalidLetters : PySem.W.kitOne K (.ref c_TooLarge) (.ref c_InvalidLetters) = some false)
    (y_q_TooLarge_InvalidWord : PySem.W.kitOne K (.ref c_TooLarge) (.ref c_InvalidWord) = some false)
    (y_q_TooLarge_InvalidNumber : PySem.W.kitOne K (.ref c_TooLarge) (.ref c_InvalidNumber) = some false)
    (y_q_TooLarge_InvalidChain : PySem.W.kitOne K (.ref c_TooLarge) (.ref c_InvalidChain) = some false)
    (y_q_TooLarge_NotSure : PySem.W.kitOne K (.ref c_TooLarge) (.ref c_NotSure) = some false)
    (y_q_TooLarge_TooShort : PySem.W.kitOne K (.ref c_TooLarge) (.ref c_TooShort) = some false)
    (y_q_TooLarge_TooLarge : PySem.W.kitOne K (.ref c_TooLarge) (.ref c_TooLarge) = some true)
    (y_q_TooLarge_TooLong : PySem.W.kitOne K (.ref c_TooLarge) (.ref c_TooLong) = some false)
    : ∃ fd : FuncData, (∀ (s : Shared) (v : Value), BindsTo s fd ⟨[v], []⟩ [("script", v)]) ∧ ∀ base : Heap, K.In base → base.Ns mainGlobals mg → FnG l.prog w K mg base CX0 6 fa fd ["script"] (spTop K) := by
  have e := hfa.symm.trans (PySem.W.mg_of X G a14)
  cases e
  have F0 := fun_mk (st := s_law_open) l0 c0 k0
  have b0 := F0.binds (ps := ["script"]) fun _ _ _ _ _ _ us hl => match us, hl with | [_], _ => rfl
  have F1 := fun_mk (st := s_law_anew) l1 c1 k1
  have b1 := F1.binds (ps := ["pen"]) fun _ _ _ _ _ _ us hl => match us, hl with | [_], _ => rfl
  have F2 := fun_mk (st := s_law_spread) l2 c2 k2
  have b2 := F2.binds (ps := ["cell", "at"]) fun _ _ _ _ _ _ us hl => match us, hl with | [_, _], _ => rfl
  have F3 := fun_mk (st := s_law_take) l3 c3 k3
  have b3 := F3.binds (ps := ["pen", "many"]) fun _ _ _ _ _ _ us hl => match us, hl with | [_, _], _ => rfl
  have F4 := fun_mk (st := s_law_one) l4 c4 k4
  have b4 := F4.binds (ps := ["pen", "some"]) fun _ _ _ _ _ _ us hl => match us, hl with | [_, _], _ => rfl
  have F5 := fun_mk (st := s_is_integer) l5 c5 k5
  have b5 := F5.binds (ps := ["value"]) fun _ _ _ _ _ _ us hl => match us, hl with | [_], _ => rfl
  have F6 := fun_mk (st := s_is_integer_from) l6 c6 k6
  have b6 := F6.binds (ps := ["value", "low", "high"]) fun _ _ _ _ _ _ us hl => match us, hl with | [_, _, _], _ => rfl
  have F7 := fun_mk (st := s_need_integer) l7 c7 k7
  have b7 := F7.binds (ps := ["value", "low", "high"]) fun _ _ _ _ _ _ us hl => match us, hl with | [_, _, _], _ => rfl
  have F8 := fun_mk (st := s_power) l8 c8 k8
  have b8 := F8.binds (ps := ["base", "exponent"]) fun _ _ _ _ _ _ us hl => match us, hl with | [_, _], _ => rfl
  have F9 := fun_mk (st := s_has_too_many_digits) l9 c9 k9
  have b9 := F9.binds (ps := ["number"]) fun _ _ _ _ _ _ us hl => match us, hl with | [_], _ => rfl
  have F10 := fun_mk (st := s_sure_length) l10 c10 k10
  have b10 := F10.binds (ps := ["number", "letters"]) fun _ _ _ _ _ _ us hl => match us, hl with | [_, _], _ => rfl
  have F11 := fun_mk (st := s_law_error) l11 c11 k11
  have b11 := F11.binds (ps := ["caught"]) fun _ _ _ _ _ _ us hl => match us, hl with | [_], _ => rfl
  have F12 := fun_mk (st := s_law_told) l12 c12 k12
  have b12 := F12.binds (ps := ["number", "letters"]) fun _ _ _ _ _ _ us hl => match us, hl with | [_, _], _ => rfl
  have F13 := fun_mk (st := s_law_due) l13 c13 k13
  have b13 := F13.binds (ps := ["number", "letters", "limit"]) fun _ _ _ _ _ _ us hl => match us, hl with | [_, _, _], _ => rfl
  have F14 := fun_mk (st := s_law) l14 c14 k14
  have b14 := F14.binds (ps := ["script"]) fun _ _ _ _ _ _ us hl => match us, hl with | [_], _ => rfl
  have T : Txt K mg { f_law_open := f0, d_law_open := _, f_law_anew := f1, d_law_anew := _, f_law_spread := f2, d_law_spread := _, f_law_take := f3, d_law_take := _, f_law_one := f4, d_law_one := _, f_is_integer := f5, d_is_integer := _, f_is_integer_from := f6, d_is_integer_from := _, f_need_integer := f7, d_need_integer := _, f_power := f8, d_power := _, f_has_too_many_digits := f9, d_has_too_many_digits := _, f_sure_length := f10, d_sure_length := _, f_law_error := f11, d_law_error := _, f_law_told := f12, d_law_told := _, f_law_due := f13, d_law_due := _, f_law := fa, d_law := _, t_LAST_NUMBER := t_LAST_NUMBER, t_MOST_DIGITS := t_MOST_DIGITS, t_MOST_LETTERS := t_MOST_LETTERS, c_InvalidChain := c_InvalidChain, c_InvalidLetters := c_InvalidLetters, c_InvalidNumber := c_InvalidNumber, c_InvalidPattern := c_InvalidPattern, c_InvalidWord := c_InvalidWord, c_NotSure := c_NotSure, c_PatternError := c_PatternError, c_TooLarge := c_TooLarge, c_TooLong := c_TooLong, c_TooShort := c_TooShort } := { F_law_open := F0, g_law_open := PySem.W.mg_of X G a0, b_law_open := b0, F_law_anew := F1, g_law_anew := PySem.W.mg_of X G a1, b_law_anew := b1, F_law_spread := F2, g_law_spread := PySem.W.mg_of X G a2, b_law_spread := b2, F_law_take := F3, g_law_take := PySem.W.mg_of X G a3, b_law_take := b3, F_law_one := F4, g_law_one := PySem.W.mg_of X G a4, b_law_one := b4, F_is_integer := F5, g_is_integer := PySem.W.mg_of X G a5, b_is_integer := b5, F_is_integer_from := F6, g_is_integer_from := PySem.W.mg_of X G a6, b_is_integer_from := b6, F_need_integer := F7, g_need_integer := PySem.W.mg_of X G a7, b_need_integer := b7, F_power := F8, g_power := PySem.W.mg_of X G a8, b_power := b8, F_has_too_many_digits := F9, g_has_too_many_digits := PySem.W.mg_of X G a9, b_has_too_many_digits := b9, F_sure_length := F10, g_sure_length := PySem.W.mg_of X G a10, b_sure_length := b10, F_law_error := F11, g_law_error := PySem.W.mg_of X G a11, b_law_error := b11, F_law_told := F12, g_law_told := PySem.W.mg_of X G a12, b_law_told := b12, F_law_due := F13, g_law_due := PySem.W.mg_of X G a13, b_law_due := b13, F_law := F14, g_law := PySem.W.mg_of X G a14, b_law := b14, g_LAST_NUMBER := PySem.W.mg_of X G z_LAST_NUMBER, g_MOST_DIGITS := PySem.W.mg_of X G z_MOST_DIGITS, g_MOST_LETTERS := PySem.W.mg_of X G z_MOST_LETTERS, ValueError := PySem.W.mg_none_of X G z_ValueError, bool := PySem.W.mg_none_of X G z_bool, enumerate := PySem.W.mg_none_of X G z_enumerate, int := PySem.W.mg_none_of X G z_int, isinstance := PySem.W.mg_none_of X G z_isinstance, len := PySem.W.mg_none_of X G z_len, list := PySem.W.mg_none_of X G z_list, range := PySem.W.mg_none_of X G z_range, repr := PySem.W.mg_none_of X G z_repr, g_InvalidChain := PySem.W.mg_of X G z_InvalidChain, g_InvalidLetters := PySem.W.mg_of X G z_InvalidLetters, g_InvalidNumber := PySem.W.mg_of X G z_InvalidNumber, g_InvalidPattern := PySem.W.mg_of X G z_InvalidPattern, g_InvalidWord := PySem.W.mg_of X G z_InvalidWord, g_NotSure := PySem.W.mg_of X G z_NotSure, g_PatternError := PySem.W.mg_of X G z_PatternError, g_TooLarge := PySem.W.mg_of X G z_TooLarge, g_TooLong := PySem.W.mg_of X G z_TooLong, g_TooShort := PySem.W.mg_of X G z_TooShort, x_InvalidNumber := exn_mk y_x_InvalidNumber y_k_InvalidNumber y_b_InvalidNumber y_t_InvalidNumber y_s_InvalidNumber y_pe1 y_pe2 y_pe3 y_hg_InvalidNumber y_hk_InvalidNumber y_hd_InvalidNumber y_ha_InvalidNumber y_pe4 y_pe5 y_hm_InvalidNumber y_v_InvalidNumber y_p_InvalidNumber, q_InvalidNumber := (kinds_cons (n := 0) (j := 3) y_q_InvalidNumber_InvalidPattern (kinds_cons (n := 1) (j := 3) y_q_InvalidNumber_InvalidLetters (kinds_cons (n := 2) (j := 3) y_q_InvalidNumber_InvalidWord (kinds_cons (n := 3) (j := 3) y_q_InvalidNumber_InvalidNumber (kinds_cons (n := 4) (j := 3) y_q_InvalidNumber_InvalidChain (kinds_cons (n := 5) (j := 3) y_q_InvalidNumber_NotSure (kinds_cons (n := 6) (j := 3) y_q_InvalidNumber_TooShort (kinds_cons (n := 7) (j := 3) y_q_InvalidNumber_TooLarge (kinds_cons (n := 8) (j := 3) y_q_InvalidNumber_TooLong kinds_nil))))))))), x_TooLarge := exn_mk y_x_TooLarge y_k_TooLarge y_b_TooLarge y_t_TooLarge y_s_TooLarge y_pe1 y_pe2 y_pe3 y_hg_TooLarge y_hk_TooLarge y_hd_TooLarge y_ha_TooLarge y_pe4 y_pe5 y_hm_TooLarge y_v_TooLarge y_p_TooLarge, q_TooLarge := (kinds_cons (n := 0) (j := 7) y_q_TooLarge_InvalidPattern (kinds_cons (n := 1) (j := 7) y_q_TooLarge_InvalidLetters (kinds_cons (n := 2) (j := 7) y_q_TooLarge_InvalidWord (kinds_cons (n := 3) (j := 7) y_q_TooLarge_InvalidNumber (kinds_cons (n := 4) (j := 7) y_q_TooLarge_InvalidChain (kinds_cons (n := 5) (j := 7) y_q_TooLarge_NotSure (kinds_cons (n := 6) (j := 7) y_q_TooLarge_TooShort (kinds_cons (n := 7) (j := 7) y_q_TooLarge_TooLarge (kinds_cons (n := 8) (j := 7) y_q_TooLarge_TooLong kinds_nil))))))))) }
  exact ⟨_, fun s v => .of_eq rfl, fun base _ _ => ok_law T⟩
end Lw
open PySem PySem.W PyProof.Rows
set_option maxRecDepth 100000 in
set_option maxHeartbeats 0 in
theorem PySem.Challenge.cw_surepatterns_k45_sure_lengths_holds : PySem.Challenge.rw_surepatterns_k45_sure_lengths.Holds := by
  w_on; o_law; k_head; (case hw => w_witness2)
  k_fill
  refine Lw.walk_ofG (l := PySem.Challenge.rw_surepatterns_k45_sure_lengths) (k := 6) (sp := fun w => Lw.spTop _) rfl rfl ⟨rfl, by decide, by decide⟩ (fun w h Y => PySem.W.kIn_of Y) ?F (fun _ _ a ns hl _ hS => ⟨a, ns, rfl, hS, hl, fun _ => rfl⟩)
  case F =>
    intro w mg fa h KX G hmg
    refine' Lw.all_mk KX G hmg ?a0 ?l0 ?c0 ?k0 ?a1 ?l1 ?c1 ?k1 ?a2 ?l2 ?c2 ?k2 ?a3 ?l3 ?c3 ?k3 ?a4 ?l4 ?c4 ?k4 ?a5 ?l5 ?c5 ?k5 ?a6 ?l6 ?c6 ?k6 ?a7 ?l7 ?c7 ?k7 ?a8 ?l8 ?c8 ?k8 ?a9 ?l9 ?c9 ?k9 ?a10 ?l10 ?c10 ?k10 ?a11 ?l11 ?c11 ?k11 ?a12 ?l12 ?c12 ?k12 ?a13 ?l13 ?c13 ?k13 ?a14 ?l14 ?c14 ?k14 ?z_LAST_NUMBER ?z_MOST_DIGITS ?z_MOST_LETTERS ?z_ValueError ?z_bool ?z_enumerate ?z_int ?z_isinstance ?z_len ?z_list ?z_range ?z_repr ?z_InvalidChain ?z_InvalidLetters ?z_InvalidNumber ?z_InvalidPattern ?z_InvalidWord ?z_NotSure ?z_PatternError ?z_TooLarge ?z_TooLong ?z_TooShort ?y_pe1 ?y_pe2 ?y_pe3 ?y_pe4 ?y_pe5 ?y_x_InvalidNumber ?y_k_InvalidNumber ?y_b_InvalidNumber ?y_t_InvalidNumber ?y_s_InvalidNumber ?y_hg_InvalidNumber ?y_hk_InvalidNumber ?y_hd_InvalidNumber ?y_ha_InvalidNumber ?y_hm_InvalidNumber ?y_v_InvalidNumber ?y_p_InvalidNumber ?y_q_InvalidNumber_InvalidPattern ?y_q_InvalidNumber_InvalidLetters ?y_q_InvalidNumber_InvalidWord ?y_q_InvalidNumber_InvalidNumber ?y_q_InvalidNumber_InvalidChain ?y_q_InvalidNumber_NotSure ?y_q_InvalidNumber_TooShort ?y_q_InvalidNumber_TooLarge ?y_q_InvalidNumber_TooLong ?y_x_TooLarge ?y_k_TooLarge ?y_b_TooLarge ?y_t_TooLarge ?y_s_TooLarge ?y_hg_TooLarge ?y_hk_TooLarge ?y_hd_TooLarge ?y_ha_TooLarge ?y_hm_TooLarge ?y_v_TooLarge ?y_p_TooLarge ?y_q_TooLarge_InvalidPattern ?y_q_TooLarge_InvalidLetters ?y_q_TooLarge_InvalidWord ?y_q_TooLarge_InvalidNumber ?y_q_TooLarge_InvalidChain ?y_q_TooLarge_NotSure ?y_q_TooLarge_TooShort ?y_q_TooLarge_TooLarge ?y_q_TooLarge_TooLong
    (case a0 => k_is)
    (case l0 => k_is)
    (case c0 => k_is)
    (case k0 => k_is)
    (case a1 => k_is)
    (case l1 => k_is)
    (case c1 => k_is)
    (case k1 => k_is)
    (case a2 => k_is)
    (case l2 => k_is)
    (case c2 => k_is)
    (case k2 => k_is)
    (case a3 => k_is)
    (case l3 => k_is)
    (case c3 => k_is)
    (case k3 => k_is)
    (case a4 => k_is)
    (case l4 => k_is)
    (case c4 => k_is)
    (case k4 => k_is)
    (case a5 => k_is)
    (case l5 => k_is)
    (case c5 => k_is)
    (case k5 => k_is)
    (case a6 => k_is)
    (case l6 => k_is)
    (case c6 => k_is)
    (case k6 => k_is)
    (case a7 => k_is)
    (case l7 => k_is)
    (case c7 => k_is)
    (case k7 => k_is)
    (case a8 => k_is)
    (case l8 => k_is)
    (case c8 => k_is)
    (case k8 => k_is)
    (case a9 => k_is)
    (case l9 => k_is)
    (case c9 => k_is)
    (case k9 => k_is)
    (case a10 => k_is)
    (case l10 => k_is)
    (case c10 => k_is)
    (case k10 => k_is)
    (case a11 => k_is)
    (case l11 => k_is)
    (case c11 => k_is)
    (case k11 => k_is)
    (case a12 => k_is)
    (case l12 => k_is)
    (case c12 => k_is)
    (case k12 => k_is)
    (case a13 => k_is)
    (case l13 => k_is)
    (case c13 => k_is)
    (case k13 => k_is)
    (case a14 => k_is)
    (case l14 => k_is)
    (case c14 => k_is)
    (case k14 => k_is)
    (case z_LAST_NUMBER => k_is)
    (case z_MOST_DIGITS => k_is)
    (case z_MOST_LETTERS => k_is)
    (case z_ValueError => k_is)
    (case z_bool => k_is)
    (case z_enumerate => k_is)
    (case z_int => k_is)
    (case z_isinstance => k_is)
    (case z_len => k_is)
    (case z_list => k_is)
    (case z_range => k_is)
    (case z_repr => k_is)
    (case z_InvalidChain => k_is)
    (case z_InvalidLetters => k_is)
    (case z_InvalidNumber => k_is)
    (case z_InvalidPattern => k_is)
    (case z_InvalidWord => k_is)
    (case z_NotSure => k_is)
    (case z_PatternError => k_is)
    (case z_TooLarge => k_is)
    (case z_TooLong => k_is)
    (case z_TooShort => k_is)
    (case y_pe1 => k_is)
    (case y_pe2 => k_is)
    (case y_pe3 => k_is)
    (case y_pe4 => k_is)
    (case y_pe5 => k_is)
    (case y_x_InvalidNumber => k_exc)
    (case y_k_InvalidNumber => k_is)
    (case y_b_InvalidNumber => k_is)
    (case y_t_InvalidNumber => k_is)
    (case y_s_InvalidNumber => k_is)
    (case y_hg_InvalidNumber => k_is)
    (case y_hk_InvalidNumber => k_is)
    (case y_hd_InvalidNumber => k_is)
    (case y_ha_InvalidNumber => k_is)
    (case y_hm_InvalidNumber => k_is)
    (case y_v_InvalidNumber => kit_is)
    (case y_p_InvalidNumber => kit_is)
    (case y_q_InvalidNumber_InvalidPattern => kit_is)
    (case y_q_InvalidNumber_InvalidLetters => kit_is)
    (case y_q_InvalidNumber_InvalidWord => kit_is)
    (case y_q_InvalidNumber_InvalidNumber => kit_is)
    (case y_q_InvalidNumber_InvalidChain => kit_is)
    (case y_q_InvalidNumber_NotSure => kit_is)
    (case y_q_InvalidNumber_TooShort => kit_is)
    (case y_q_InvalidNumber_TooLarge => kit_is)
    (case y_q_InvalidNumber_TooLong => kit_is)
    (case y_x_TooLarge => k_exc)
    (case y_k_TooLarge => k_is)
    (case y_b_TooLarge => k_is)
    (case y_t_TooLarge => k_is)
    (case y_s_TooLarge => k_is)
    (case y_hg_TooLarge => k_is)
    (case y_hk_TooLarge => k_is)
    (case y_hd_TooLarge => k_is)
    (case y_ha_TooLarge => k_is)
    (case y_hm_TooLarge => k_is)
    (case y_v_TooLarge => kit_is)
    (case y_p_TooLarge => kit_is)
    (case y_q_TooLarge_InvalidPattern => kit_is)
    (case y_q_TooLarge_InvalidLetters => kit_is)
    (case y_q_TooLarge_InvalidWord => kit_is)
    (case y_q_TooLarge_InvalidNumber => kit_is)
    (case y_q_TooLarge_InvalidChain => kit_is)
    (case y_q_TooLarge_NotSure => kit_is)
    (case y_q_TooLarge_TooShort => kit_is)
    (case y_q_TooLarge_TooLarge => kit_is)
    (case y_q_TooLarge_TooLong => kit_is)
