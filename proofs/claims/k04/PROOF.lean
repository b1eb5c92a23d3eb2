import PyProof.Rows.All
import Wide.All
import OpenK.AllK
import Wide.FinOn
import HandS.ForMost
import HandS.IsInst
import HandS.More
import HandS.Replace
import HandS.StrMore
import HandS.Style
import HandS.TupAny
import HandS.Walk
import HandS.Codes
import HandS.ForExc
import HandS.ExcIs
import PyProof.ReprRoads
import PyProof.Rows.CountFlat
import HandS.RaiseMore
import HandS.Conv
import HandS.Zip
import PyProof.Draws
import HandS.Dict
import HandS.DictComp
import HandS.Words
import KE.KDictZip
import PySem.Challenge.RW_surepatterns_k04_whole_values_of_values
set_option Elab.async false
set_option linter.all false
set_option maxRecDepth 100000

namespace Lw
open PySem PySem.Spec PyProof.Rows L2
/-! ### short words for the readings: rd (what is known), n1 .. n6 (a new object), w1 .. w4 (a store) -/
local macro_rules | `(tactic| walk_at "rd1") => `(tactic| first | refine ⟨_, rfl, ?_⟩ | refine ⟨_, _, rfl, rfl, ?_⟩)
local macro_rules | `(tactic| walk_at "rd") => `(tactic| repeat walk_at "rd1")
set_option hygiene false in
local macro_rules | `(tactic| walk_at "n1") => `(tactic| (intro l1 n1; generalize h1 : upd _ l1 _ = H1; obtain ⟨S1, e1⟩ := nw h1 n1; clear h1))
set_option hygiene false in
local macro_rules | `(tactic| walk_at "n2") => `(tactic| (intro l2 n2; generalize h2 : upd _ l2 _ = H2; obtain ⟨S2, e2⟩ := nw h2 n2; clear h2))
set_option hygiene false in
local macro_rules | `(tactic| walk_at "n3") => `(tactic| (intro l3 n3; generalize h3 : upd _ l3 _ = H3; obtain ⟨S3, e3⟩ := nw h3 n3; clear h3))
set_option hygiene false in
local macro_rules | `(tactic| walk_at "n4") => `(tactic| (intro l4 n4; generalize h4 : upd _ l4 _ = H4; obtain ⟨S4, e4⟩ := nw h4 n4; clear h4))
set_option hygiene false in
local macro_rules | `(tactic| walk_at "n5") => `(tactic| (intro l5 n5; generalize h5 : upd _ l5 _ = H5; obtain ⟨S5, e5⟩ := nw h5 n5; clear h5))
set_option hygiene false in
local macro_rules | `(tactic| walk_at "n6") => `(tactic| (intro l6 n6; generalize h6 : upd _ l6 _ = H6; obtain ⟨S6, e6⟩ := nw h6 n6; clear h6))
set_option hygiene false in
local macro_rules | `(tactic| walk_at "n7") => `(tactic| (intro l7 n7; generalize h7 : upd _ l7 _ = H7; obtain ⟨S7, e7⟩ := nw h7 n7; clear h7))
set_option hygiene false in
local macro_rules | `(tactic| walk_at "n8") => `(tactic| (intro l8 n8; generalize h8 : upd _ l8 _ = H8; obtain ⟨S8, e8⟩ := nw h8 n8; clear h8))
set_option hygiene false in
local macro_rules | `(tactic| walk_at "n9") => `(tactic| (intro l9 n9; generalize h9 : upd _ l9 _ = H9; obtain ⟨S9, e9⟩ := nw h9 n9; clear h9))
set_option hygiene false in
local macro_rules | `(tactic| walk_at "w1") => `(tactic| (generalize h1 : upd _ _ _ = G1; obtain ⟨B1, f1⟩ := pt h1; clear h1))
set_option hygiene false in
local macro_rules | `(tactic| walk_at "w2") => `(tactic| (generalize h2 : upd _ _ _ = G2; obtain ⟨B2, f2⟩ := pt h2; clear h2))
set_option hygiene false in
local macro_rules | `(tactic| walk_at "w3") => `(tactic| (generalize h3 : upd _ _ _ = G3; obtain ⟨B3, f3⟩ := pt h3; clear h3))
set_option hygiene false in
local macro_rules | `(tactic| walk_at "w4") => `(tactic| (generalize h4 : upd _ _ _ = G4; obtain ⟨B4, f4⟩ := pt h4; clear h4))
set_option hygiene false in
local macro_rules | `(tactic| walk_at "w5") => `(tactic| (generalize h5 : upd _ _ _ = G5; obtain ⟨B5, f5⟩ := pt h5; clear h5))
set_option hygiene false in
local macro_rules | `(tactic| walk_at "n10") => `(tactic| (intro l10 n10; generalize h10 : upd _ l10 _ = H10; obtain ⟨S10, e10⟩ := nw h10 n10; clear h10))
set_option hygiene false in
local macro_rules | `(tactic| walk_at "n11") => `(tactic| (intro l11 n11; generalize h11 : upd _ l11 _ = H11; obtain ⟨S11, e11⟩ := nw h11 n11; clear h11))
set_option hygiene false in
local macro_rules | `(tactic| walk_at "n12") => `(tactic| (intro l12 n12; generalize h12 : upd _ l12 _ = H12; obtain ⟨S12, e12⟩ := nw h12 n12; clear h12))
set_option hygiene false in
local macro_rules | `(tactic| walk_at "n13") => `(tactic| (intro l13 n13; generalize h13 : upd _ l13 _ = H13; obtain ⟨S13, e13⟩ := nw h13 n13; clear h13))
set_option hygiene false in
local macro_rules | `(tactic| walk_at "n14") => `(tactic| (intro l14 n14; generalize h14 : upd _ l14 _ = H14; obtain ⟨S14, e14⟩ := nw h14 n14; clear h14))
set_option hygiene false in
local macro_rules | `(tactic| walk_at "n15") => `(tactic| (intro l15 n15; generalize h15 : upd _ l15 _ = H15; obtain ⟨S15, e15⟩ := nw h15 n15; clear h15))
set_option hygiene false in
local macro_rules | `(tactic| walk_at "n16") => `(tactic| (intro l16 n16; generalize h16 : upd _ l16 _ = H16; obtain ⟨S16, e16⟩ := nw h16 n16; clear h16))
set_option hygiene false in
local macro_rules | `(tactic| walk_at "n17") => `(tactic| (intro l17 n17; generalize h17 : upd _ l17 _ = H17; obtain ⟨S17, e17⟩ := nw h17 n17; clear h17))
set_option hygiene false in
local macro_rules | `(tactic| walk_at "n18") => `(tactic| (intro l18 n18; generalize h18 : upd _ l18 _ = H18; obtain ⟨S18, e18⟩ := nw h18 n18; clear h18))
set_option hygiene false in
local macro_rules | `(tactic| walk_at "n19") => `(tactic| (intro l19 n19; generalize h19 : upd _ l19 _ = H19; obtain ⟨S19, e19⟩ := nw h19 n19; clear h19))
set_option hygiene false in
local macro_rules | `(tactic| walk_at "n20") => `(tactic| (intro l20 n20; generalize h20 : upd _ l20 _ = H20; obtain ⟨S20, e20⟩ := nw h20 n20; clear h20))

/-! ### heaps -/
/-- all but what stands at p is as it was -/
def But (p : Addr) (H H' : Hp) : Prop := ∀ b o, b ≠ p → H b = some o → H' b = some o
theorem But.refl (p : Addr) (H : Hp) : But p H H := fun _ _ _ h => h
theorem But.trans {p : Addr} {H H1 H2 : Hp} (a : But p H H1) (b : But p H1 H2) : But p H H2 := fun c o n h => b c o n (a c o n h)
theorem But.of_same {p : Addr} {H H1 : Hp} (a : Same H H1) : But p H H1 := fun c o _ h => a c o h
theorem But.upd_at {p : Addr} {H H1 : Hp} {o : HO} (a : But p H H1) : But p H (upd H1 p o) := fun c u n h => by
  rw [upd_ne n]; exact a c u n h
theorem But.new {p q : Addr} {H H1 : Hp} {o : HO} (a : But p H H1) (hq : H1 q = none) : But p H (upd H1 q o) := fun c u n h => by
  rw [upd_ne (ne_of_none (a c u n h) hq)]; exact a c u n h
/-- a change at an address that was free at the start -/
theorem But.own {p q : Addr} {H H1 : Hp} {o : HO} (a : But p H H1) (hq : H q = none) : But p H (upd H1 q o) := fun c u n h => by
  rw [upd_ne (ne_of_none h hq)]; exact a c u n h
theorem But.free {p q : Addr} {H H1 : Hp} (a : But p H H1) (h : H1 q = none) (n : q ≠ p) : H q = none := by
  cases e : H q with
  | none => rfl
  | some o => rw [a q o n e] at h; cases h
theorem _root_.L2.Same.new {H : Hp} {q : Addr} {o : HO} (hq : H q = none) : Same H (upd H q o) := fun c u h => by
  rw [upd_ne (ne_of_none h hq)]; exact h
theorem _root_.L2.Same.own {H H1 : Hp} {q : Addr} {o : HO} (s : Same H H1) (hq : H q = none) : Same H (upd H1 q o) := fun c u h => by
  rw [upd_ne (ne_of_none h hq)]; exact s c u h
theorem But.seq {K : PySem.W.Frag} {p a : Addr} {H H' : Hp} {xs : List V} (e : But p H H') (n : a ≠ p) (h : SqL K H a xs) : SqL K H' a xs := by
  rcases h with (h | ⟨o, h⟩) | h
  · exact .inl (.inl (e _ _ n h))
  · exact .inl (.inr ⟨o, e _ _ n h⟩)
  · exact .inr h
theorem But.tup {K : PySem.W.Frag} {p a : Addr} {H H' : Hp} {xs : List V} (e : But p H H') (n : a ≠ p) (h : SqT K H a xs) : SqT K H' a xs := by
  rcases h with (h | ⟨o, h⟩) | h
  · exact .inl (.inl (e _ _ n h))
  · exact .inl (.inr ⟨o, e _ _ n h⟩)
  · exact .inr h
theorem sl_of {n : Nat} (h : n ≤ 100000) : n ≤ sizeLine := Nat.le_trans h (by decide)
theorem slt_of {n : Nat} (h : n < 100000) : n < sizeLine := Nat.lt_of_lt_of_le h (by decide)

/-! ### the pen: a list of a list of ints, the number of draws, what is left of the last one -/
def PenAt (H : Hp) (p c : Addr) (ns : List Int) (i z : Int) : Prop := H p = some (.lst [.ref c, .int i, .int z]) ∧ H c = some (.lst (ns.map V.int)) ∧ ns.length ≤ 12
def Pen (H : Hp) (p c : Addr) (n : Nat) : Prop := ∃ ns i z, PenAt H p c ns i z ∧ 0 ≤ i ∧ i ≤ (n : Int)
theorem PenAt.ne {H : Hp} {p c : Addr} {ns : List Int} {i z : Int} (h : PenAt H p c ns i z) : c ≠ p := by
  refine ne_of h.2.1 h.1 fun e => ?_
  injection e with e
  cases ns with
  | nil => cases e
  | cons x r => rw [List.map_cons] at e; injection e with e _; cases e
theorem Pen.mono {H : Hp} {p c : Addr} {n m : Nat} (h : Pen H p c n) (l : n ≤ m) : Pen H p c m := by
  obtain ⟨ns, i, z, a, b, d⟩ := h
  exact ⟨ns, i, z, a, b, by omega⟩
theorem Pen.same {H H' : Hp} {p c : Addr} {n : Nat} (h : Pen H p c n) (s : Same H H') : Pen H' p c n := by
  obtain ⟨ns, i, z, ⟨a1, a2, a3⟩, b, d⟩ := h
  exact ⟨ns, i, z, ⟨s _ _ a1, s _ _ a2, a3⟩, b, d⟩
theorem Pen.new {H : Hp} {p c q : Addr} {n : Nat} {o : HO} (h : Pen H p c n) (hq : H q = none) : Pen (upd H q o) p c n := h.same (Same.new hq)
theorem Pen.ne_free {H : Hp} {p c q : Addr} {n : Nat} (h : Pen H p c n) (hq : H q = none) : q ≠ p ∧ q ≠ c := by
  obtain ⟨ns, i, z, ⟨a1, a2, _⟩, _⟩ := h
  exact ⟨(ne_of_none a1 hq).symm, (ne_of_none a2 hq).symm⟩
/-- a store to what was made behind the pen -/
theorem Pen.list {H : Hp} {p c q : Addr} {n : Nat} {o : HO} (h : Pen H p c n) (hq : q ≠ p ∧ q ≠ c) : Pen (upd H q o) p c n := by
  obtain ⟨ns, i, z, ⟨a1, a2, a3⟩, b, d⟩ := h
  exact ⟨ns, i, z, ⟨by rw [upd_ne hq.1.symm]; exact a1, by rw [upd_ne hq.2.symm]; exact a2, a3⟩, b, d⟩
theorem mod13 (a : Int) : 0 ≤ a % 13 ∧ a % 13 < 13 := ⟨Int.emod_nonneg _ (by decide), Int.emod_lt_of_pos _ (by decide)⟩
theorem nw {H H1 : Hp} {p : Addr} {o : HO} (h : upd H p o = H1) (n : H p = none) : Same H H1 ∧ H1 p = some o := h ▸ ⟨Same.new n, upd_same⟩
theorem pt {H H1 : Hp} {p : Addr} {o : HO} (h : upd H p o = H1) : But p H H1 ∧ H1 p = some o := h ▸ ⟨(But.refl p H).upd_at, upd_same⟩

/-! ### the law's mixing: bounds alone -/
def primesL : List Int := [2147483629, 2147483587, 2147483579, 2147483563, 2147483549, 2147483543, 2147483497, 2147483489, 2147483477, 2147483423, 2147483399, 2147483353, 2147483323]
theorem primes_fin : ∀ j : Fin 13, 2147483323 ≤ primesL[j] ∧ primesL[j] ≤ 2147483629 := by decide
theorem primes_at (a : Int) : ∃ q : Int, atI (primesL.map V.int) (a % 13) = some (.int q) ∧ 2147483323 ≤ q ∧ q ≤ 2147483629 := by
  obtain ⟨h0, h1⟩ := mod13 a
  obtain ⟨j, hj⟩ := Int.eq_ofNat_of_zero_le h0
  have hl : j < 13 := by omega
  refine ⟨primesL[(⟨j, hl⟩ : Fin 13)], ?_, primes_fin ⟨j, hl⟩⟩
  rw [hj]
  refine atI_nat ?_
  rw [List.getElem?_map, List.getElem?_eq_getElem (show j < primesL.length from hl)]
  rfl
theorem mul_in {x y : Int} {m n : Int} (h0 : 0 ≤ x) (h1 : x ≤ m) (h2 : 0 ≤ y) (h3 : y ≤ n) : 0 ≤ x * y ∧ x * y ≤ m * n :=
  ⟨Int.mul_nonneg h0 h2, Int.mul_le_mul h1 h3 h2 (by omega)⟩
theorem mixed_lt (c a : Int) (h0 : 0 ≤ a) (h1 : a ≤ 1048576) : (c % 1000000007 * (2 * a + 69069) + a * 40503 + 977).natAbs < 2 ^ 64 := by
  have := mul_in (x := c % 1000000007) (y := 2 * a + 69069) (m := 1000000006) (n := 4000000) (by omega) (by omega) (by omega) (by omega)
  omega
theorem two_lt (c a o : Int) (h0 : 0 ≤ a) (h1 : a ≤ 1048576) (h2 : 0 ≤ o) (h3 : o ≤ 2147483629) : (o * (a + 3) + c % 65537 + 5).natAbs < 2 ^ 64 := by
  have := mul_in (x := o) (y := a + 3) (m := 2147483629) (n := 4000000) (by omega) (by omega) (by omega) (by omega)
  omega
theorem three_lt (a o t : Int) (h0 : 0 ≤ a) (h1 : a ≤ 1048576) (h2 : 0 ≤ t) (h3 : t ≤ 2147483629) : (t + o % 1009 + a).natAbs < 2 ^ 64 := by omega
theorem rest_in {x q : Int} (h1 : 2147483323 ≤ q) (h2 : q ≤ 2147483629) : 0 ≤ x % q ∧ x % q ≤ 2147483629 :=
  ⟨Int.emod_nonneg _ (by omega), by have := Int.emod_lt_of_pos x (show 0 < q by omega); omega⟩
/-! ### slices -/
def cutL {α : Type} (xs : List α) (lo hi : Option Int) : List α := (xs.drop (HT.sIx xs.length 0 lo)).take (HT.sIx xs.length xs.length hi - HT.sIx xs.length 0 lo)
theorem cutV_L (xs : List V) (lo hi : Option Int) : cutV xs lo hi = cutL xs lo hi := rfl
theorem cutL_map {α β : Type} (f : α → β) (xs : List α) (lo hi : Option Int) : cutL (xs.map f) lo hi = (cutL xs lo hi).map f := by
  unfold cutL
  rw [List.length_map, List.map_take, List.map_drop]
theorem cutL_pre {α : Type} (xs : List α) (k : Nat) : cutL xs none (some (k : Int)) = xs.take k := by
  unfold cutL
  rw [HT.sIx_none, HT.sIx_nat, List.drop_zero, Nat.sub_zero]
  by_cases h : k ≤ xs.length
  · rw [Nat.min_eq_left h]
  · rw [Nat.min_eq_right (by omega), List.take_length, List.take_of_length_le (by omega)]
theorem cutL_suf {α : Type} (xs : List α) (k : Nat) : cutL xs (some (k : Int)) none = xs.drop k := by
  unfold cutL
  rw [HT.sIx_none, HT.sIx_nat]
  by_cases h : k ≤ xs.length
  · rw [Nat.min_eq_left h, List.take_of_length_le (by rw [List.length_drop]; omega)]
  · rw [Nat.min_eq_right (by omega), List.drop_length, List.take_nil, List.drop_of_length_le (by omega)]
theorem cutL_mid {α : Type} (xs : List α) (j k : Nat) : cutL xs (some (j : Int)) (some (k : Int)) = (xs.take k).drop j := by
  unfold cutL
  rw [HT.sIx_nat, HT.sIx_nat]
  by_cases h : k ≤ xs.length
  · rw [Nat.min_eq_left h]
    by_cases h2 : j ≤ xs.length
    · rw [Nat.min_eq_left h2, List.drop_take]
    · rw [Nat.min_eq_right (by omega), List.drop_length, List.take_nil, List.drop_of_length_le (by rw [List.length_take]; omega)]
  · rw [Nat.min_eq_right (show xs.length ≤ k by omega), List.take_of_length_le (show xs.length ≤ k by omega)]
    by_cases h2 : j ≤ xs.length
    · rw [Nat.min_eq_left h2, List.take_of_length_le (by rw [List.length_drop]; omega)]
    · rw [Nat.min_eq_right (by omega), List.drop_length, List.take_nil, List.drop_of_length_le (by omega)]
theorem ix12 {n : Nat} (i : Nat) (h : 12 ≤ n) : ixN n ((i : Int) % 12) = some (i % 12) := by
  unfold ixN
  rw [if_pos (by omega), if_pos (by omega)]
  congr 1
def vN (k : Nat) : V := .int (k : Int)
theorem walk_rangeN {n : Nat} : Walk (Itr 0 n) n (fun _ => True) (YFn vN) := walk_range.mono (fun _ h => h) fun i H x H' _ _ y => ⟨y.1, by
  rw [y.2]
  show V.int (0 + (i : Int)) = V.int (i : Int)
  rw [Int.zero_add]⟩
/-- a comprehension's turn without a test -/
theorem yesT {σ : L2.St} {H : Hp} {A B : Hp → Prop} (h : A H) : tYes σ H fun b H3 => if b = true then A H3 else B H3 := by
  show (if true = true then A H else B H)
  rw [if_pos rfl]
  exact h
/-- a comprehension without a test whose turns change nothing -/
theorem lc_map {α : Type} {J : It} {G : Hp → Prop} {Y : Nat → Hp → V → Hp → Prop} (xs : List α) (f : α → V) (w : Walk J xs.length G Y) {g : TG} {te : TE} {vs : List Nat} {σ : L2.St} {H1 : Hp} {D : Addr} {Qd : Hp → Prop}
    (hD : H1 D = none) (hn : xs.length ≤ 100000) (hG : ∀ H', Same H1 H' → G H')
    (hs : ∀ i a x H' H'' (R : VK), xs[i]? = some a → Same H1 H' → Y i H' x H'' → (∀ H4, Same H' H4 → R (f a) H4) → g x (wipe σ vs) H'' fun σ2 H2 => wipe σ2 vs = wipe σ vs ∧ te σ2 H2 R)
    (hd : ∀ H', Same H1 H' → H' D = some (.lst (xs.map f)) → Qd H') :
    ∃ W : Nat → Nat → Hp → Prop, (∃ m, W 0 m (upd H1 D (.lst []))) ∧ ∀ i m H, W i m H →
      (J.stop i H ∧ Qd H) ∨ (J.go i H ∧ ∃ Nx : Hp → Prop, (∀ H', Nx H' → ∃ m', m' < m ∧ W (i + 1) m' H') ∧ ∀ x H', J.yld i H x H' → g x (wipe σ vs) H' fun σ2 H2 => wipe σ2 vs = wipe σ vs ∧ tYes σ2 H2 fun b H3 =>
        if b = true then te σ2 H3 fun y H4 => ∃ acc, H4 D = some (.lst acc) ∧ acc.length < sizeLine ∧ Nx (upd H4 D (.lst (acc ++ [y]))) else Nx H3) := by
  refine lc_it w (fun i H' => Same H1 H' ∧ H' D = some (.lst ((xs.take i).map f))) ⟨Same.new hD, upd_same⟩ (fun i H _ h => hG H h.1) (fun i x H' H'' hi h y => ?_) (fun H h => ?_)
  · obtain ⟨a, ha⟩ : ∃ a, xs[i]? = some a := ⟨_, List.getElem?_eq_getElem hi⟩
    have q := hs i a x H' H'' (fun y H4 => ∃ acc, H4 D = some (.lst acc) ∧ acc.length < sizeLine ∧ Same H1 (upd H4 D (.lst (acc ++ [y]))) ∧ (upd H4 D (.lst (acc ++ [y]))) D = some (.lst ((xs.take (i + 1)).map f))) ha h.1 y (fun H4 s => ?_)
    · exact q
    · refine ⟨_, s _ _ h.2, ?_, (h.1.trans s).own hD, ?_⟩
      · rw [List.length_map, List.length_take, sizeLine_eq]
        omega
      · rw [upd_same, List.take_add_one, ha, Option.toList_some, List.map_append]
        rfl
  · rw [List.take_length] at h
    exact hd H h.1 h.2
/-! ### rules with the written part named (within comprehensions) -/
section
variable {X : Cx} {K : PySem.W.Frag}
theorem ix_listK (h : X.K = K := by rfl) : IxR X (rIxL K) := h ▸ ix_list
theorem ix_tupK (h : X.K = K := by rfl) : IxR X (rIxT K) := h ▸ ix_tup
theorem sl_listK (h : X.K = K := by rfl) : SlR X (rSlL K) := h ▸ sl_list
theorem sl_tupAK (h : X.K = K := by rfl) : SlR X (rSlA K) := h ▸ sl_tupA
theorem call_lenK (h : X.K = K := by rfl) : CallR X (.builtin "len") (fun xs H Q => ∃ p ys, xs = [.ref p] ∧ (SqL K H p ys ∨ SqT K H p ys) ∧ Q (.int ys.length) H) := h ▸ call_len_seq
theorem call_listK (h : X.K = K := by rfl) : CallR X (.type "list") (fun xs H Q => ∃ p ys, xs = [.ref p] ∧ (SqL K H p ys ∨ SqT K H p ys) ∧ ∀ l, H l = none → Q (.ref l) (upd H l (.lst ys))) := h ▸ call_list_of
theorem op_inK (h : X.K = K := by rfl) : OpR X (compareOp .In) (rIn K false) := h ▸ op_in_seq
theorem op_notInK (h : X.K = K := by rfl) : OpR X (compareOp .NotIn) (rIn K true) := h ▸ op_notIn_seq
end

/-! ### texts as lists of code points -/
open SX (S)
theorem len_S (l : List Nat) : (S l).length = l.length := SX.S_len l
theorem ip_addS {X : Cx} : PIp X .Add (fun x y H Q => ∃ i j, x = .str i ∧ y = .str j ∧ i.length + j.length ≤ sizeLine ∧ Q (.str (i ++ j)) H) := iop_add_str
/-- text * number -/
def rRepS : R2 := fun x y H Q => ∃ z n, x = .str z ∧ y = .int n ∧ PySem.MulOk z n ∧ Q (.str (Txt.mul z n)) H
theorem op_repS {X : Cx} : OpR X (binaryOp .Mult) rRepS := by
  intro pins s σ H x y v u Q I rx ry h
  obtain ⟨z, n, rfl, rfl, ok, q⟩ := h
  obtain ⟨t, rfl⟩ := rx
  obtain ⟨t', rfl⟩ := ry
  exact PySem.SB.mul ok fun t' k => ⟨.str (Txt.mul z n), H, I.tok k, ⟨t', rfl⟩, q⟩
theorem mul_app (l : List Nat) : ∀ (n : Nat) (acc : List Nat), ((List.replicate n l.toArray).foldl (· ++ ·) acc.toArray) = (acc ++ (List.replicate n l).flatten).toArray
  | 0, acc => by simp
  | n + 1, acc => by
    rw [List.replicate_succ, List.foldl_cons, List.append_toArray, mul_app l n (acc ++ l), List.replicate_succ, List.flatten_cons, List.append_assoc]
theorem mul_S (l : List Nat) (n : Nat) : Txt.mul (S l) (n : Int) = S (List.replicate n l).flatten := by
  unfold Txt.mul
  by_cases h0 : (n : Int) < 1
  · have e : n = 0 := by omega
    subst e
    rw [if_pos h0]
    rfl
  · rw [if_neg h0]
    by_cases h1 : ((n : Int) == 1 || (S l).length == 0) = true
    · rw [if_pos h1]
      rcases Bool.or_eq_true_iff.mp h1 with h | h
      · have e : (n : Int) = 1 := eq_of_beq h
        have e2 : n = 1 := by omega
        subst e2
        simp
      · have e : (S l).length = 0 := eq_of_beq h
        rw [len_S] at e
        have e2 : l = [] := List.length_eq_zero_iff.mp e
        subst e2
        congr 1
        have : ∀ m : Nat, (List.replicate m ([] : List Nat)).flatten = [] := fun m => by
          induction m with
          | zero => rfl
          | succ m ih => rw [List.replicate_succ, List.flatten_cons, ih] <;> rfl
        rw [this]
    · rw [if_neg h1, Int.toNat_natCast]
      congr 1
      exact mul_app l n []
theorem mulOk_S {l : List Nat} {n : Nat} (h : l.length * n ≤ 100000) (hn : n ≤ 100000) : PySem.MulOk (S l) (n : Int) := by
  refine ⟨?_, fun h1 h2 => ?_, fun h1 h2 => ?_⟩
  · rw [decide_eq_false (by omega), decide_eq_false (by omega)] <;> rfl
  · rw [len_S]
    have h3 : ((l.length : Nat) : Int) * n ≤ 100000 := by
      rw [← Int.natCast_mul]
      omega
    have h4 : (1 : Int) ≤ n := by omega
    have h5 : (l.length : Int) ≤ (2 ^ 63 - 1) / (n : Int) := by
      refine (Int.le_ediv_iff_mul_le (by omega)).mpr ?_
      omega
    omega
  · rw [len_S, Int.toNat_natCast]
    refine decide_eq_false ?_
    rw [sizeLine_eq]
    omega
/-- text.index(sign) that is there -/
def rIdx : V → List V → Hp → VK → Prop := fun x xs H Q => ∃ (l : List Nat) (c : Nat), x = .str (S l) ∧ xs = [.str (S [c])] ∧ c ∈ l ∧ Q (.int (l.idxOf c : Nat)) H
theorem occ_idx {l : List Nat} {c : Nat} (h : c ∈ l) : ∃ r, Builtin.Str.occurrences (S l) (S [c]) 0 (S l).length 1 = l.idxOf c :: r := by
  have hi : l.idxOf c < l.length := List.idxOf_lt_length_iff.mpr h
  have hg : l[l.idxOf c]? = some c := by
    rw [List.getElem?_eq_getElem hi, List.getElem_idxOf hi]
  rcases StrLaws.occ_head (S l) (S [c]) 1 (Nat.le_refl 1) with ⟨_, hn⟩ | ⟨i, r, e, ha, hn⟩
  · exact absurd ((StrLaws.subAt_one (S l) c (l.idxOf c)).mpr hg) (hn _)
  · refine ⟨r, ?_⟩
    rw [e]
    congr 1
    have h1 : l[i]? = some c := (StrLaws.subAt_one (S l) c i).mp ha
    by_cases h2 : l.idxOf c < i
    · exact absurd ((StrLaws.subAt_one (S l) c (l.idxOf c)).mpr hg) (hn _ h2)
    · by_cases h3 : i < l.idxOf c
      · have := List.not_of_lt_findIdx (p := (· == c)) (xs := l) (i := i) h3
        obtain ⟨hl, e1⟩ := List.getElem?_eq_some_iff.mp h1
        rw [e1] at this
        simp at this
      · omega
theorem mt_idx {X : Cx} : MtR X "str.index" rIdx := by
  intro pins s σ H x xs v us Q I rx rs h
  obtain ⟨l, c, rfl, rfl, hc, q⟩ := h
  obtain ⟨r, e⟩ := occ_idx hc
  exact mt_sindex pins s σ H _ _ v us Q I rx rs ⟨_, _, _, r, rfl, rfl, e, q⟩
theorem pe_idx {X : Cx} {o e : Expr} {to te : TE} {apos pos : Pos} (ho : PE X o to) (he : PE X e te)
    (hs : starEach [e] X.env = [(false, eval e X.env)] := by rfl) (hbase : attributeBase o "index" X.env (eval o X.env) = eval o X.env := by rfl) (hline : (apos.endLine == pos.line) = true := by rfl) :
    PE X (.Call (.Attribute o "index" apos) [e] [] pos) (tM1 rIdx to te) := pe_m1 PySem.F.slot_str_index PySem.F.type_str_index mt_idx ho he hs hbase hline
theorem walk_S {l : List Nat} : Walk (Its (S l)) l.length (fun _ => True) (fun i H v H' => H' = H ∧ ∃ c, l[i]? = some c ∧ v = .str (S [c])) :=
  (walk_str (z := S l)).mono (fun _ h => h) fun i H x H' _ _ y => by
    obtain ⟨e, c, h1, h2⟩ := y
    refine ⟨e, c, ?_, h2⟩
    rw [← h1]
    simp
theorem cutS_S (l : List Nat) (lo hi : Option Int) : cutS (S l) lo hi = S (cutL l lo hi) := by
  unfold cutS cutL
  rw [len_S]
theorem join0 (ys : List (List Nat)) : Txt.join (S []) (ys.map S) = S ys.flatten := by
  rw [SX.join_S]
  congr 1
  have : ∀ ys : List (List Nat), TL.joinL [] ys = ys.flatten := fun ys => by
    induction ys with
    | nil => rfl
    | cons x r ih =>
      cases r with
      | nil => simp [TL.joinL]
      | cons y r => show x ++ ([] ++ TL.joinL [] (y :: r)) = _; rw [ih]; rfl
  rw [this]
theorem flat1 {α : Type} (f : α → Nat) (l : List α) : (l.map fun x => [f x]).flatten = l.map f := by
  induction l with
  | nil => rfl
  | cons x r ih => rw [List.map_cons, List.flatten_cons, ih]; rfl
theorem snocInd {α : Type} {P : List α → Prop} (h0 : P []) (hs : ∀ l a, P l → P (l ++ [a])) (l : List α) : P l := by
  have : ∀ r : List α, P r.reverse := fun r => by
    induction r with
    | nil => exact h0
    | cons x r ih => rw [List.reverse_cons]; exact hs _ _ ih
  have h := this l.reverse
  rw [List.reverse_reverse] at h
  exact h
/-! ### the different signs of a text -/
def dist (l : List Nat) : List Nat := l.foldl (fun acc c => if c ∈ acc then acc else acc ++ [c]) []
theorem dist_snoc (l : List Nat) (c : Nat) : dist (l ++ [c]) = if c ∈ dist l then dist l else dist l ++ [c] := by
  unfold dist
  rw [List.foldl_append]
  rfl
theorem dist_len (l : List Nat) : (dist l).length ≤ l.length := by
  refine snocInd (P := fun l => (dist l).length ≤ l.length) (Nat.le_refl _) (fun l c ih => ?_) l
  rw [dist_snoc, List.length_append]
  by_cases h : c ∈ dist l
  · rw [if_pos h]; exact Nat.le_succ_of_le ih
  · rw [if_neg h, List.length_append]; exact Nat.add_le_add_right ih _
theorem mem_dist {l : List Nat} {c : Nat} : c ∈ dist l ↔ c ∈ l := by
  refine snocInd (P := fun l => c ∈ dist l ↔ c ∈ l) Iff.rfl (fun l d ih => ?_) l
  rw [dist_snoc, List.mem_append, List.mem_singleton]
  by_cases h : d ∈ dist l
  · rw [if_pos h, ih]
    refine ⟨.inl, fun z => z.elim id fun e => ?_⟩
    subst e; exact ih.mp h
  · rw [if_neg h, List.mem_append, List.mem_singleton, ih]
theorem dist_nodup (l : List Nat) : (dist l).Nodup := by
  refine snocInd (P := fun l => (dist l).Nodup) List.nodup_nil (fun l d ih => ?_) l
  rw [dist_snoc]
  by_cases h : d ∈ dist l
  · rw [if_pos h]; exact ih
  · rw [if_neg h]
    exact List.nodup_append.mpr ⟨ih, List.nodup_cons.mpr ⟨List.not_mem_nil, List.nodup_nil⟩, fun a ha b hb => by
      rw [List.mem_singleton] at hb; subst hb; intro e; subst e; exact h ha⟩
theorem sum_le {ls : List Nat} {b : Nat} (h : ∀ x ∈ ls, x ≤ b) : ls.sum ≤ ls.length * b := by
  induction ls with
  | nil => simp
  | cons x r ih =>
    rw [List.sum_cons, List.length_cons, Nat.succ_mul]
    have h1 := h x List.mem_cons_self
    have h2 := ih fun y hy => h y (List.mem_cons_of_mem _ hy)
    omega
theorem join_ok {ys : List (List Nat)} (b : Nat) (hb : ∀ y ∈ ys, y.length ≤ b) (h : ys.length * b ≤ 100000) : ((ys.map S).map (·.length)).sum + (ys.map S).length * (S []).length ≤ 16777216 := by
  rw [SX.lens]
  have h1 : (ys.map (·.length)).sum ≤ (ys.map (·.length)).length * b := sum_le fun x hx => by
    obtain ⟨y, hy, rfl⟩ := List.mem_map.mp hx
    exact hb y hy
  rw [List.length_map] at h1
  show _ + _ * 0 ≤ _
  omega
theorem join_ok1 {α : Type} {l : List α} (f : α → Nat) (h : l.length ≤ 100000) : (((l.map fun c => [f c]).map S).map (·.length)).sum + ((l.map fun c => [f c]).map S).length * (S []).length ≤ 16777216 :=
  join_ok 1 (fun y hy => by obtain ⟨x, _, rfl⟩ := List.mem_map.mp hy; exact Nat.le_refl 1) (by rw [List.length_map]; omega)
theorem map_sg {α : Type} (f : α → Nat) (l : List α) : l.map (fun c => V.str (S [f c])) = ((l.map fun c => [f c]).map S).map V.str := by
  rw [List.map_map, List.map_map]
  rfl
theorem nodup_len {α : Type} [DecidableEq α] : ∀ {l m : List α}, l.Nodup → (∀ x ∈ l, x ∈ m) → l.length ≤ m.length
  | [], _, _, _ => Nat.zero_le _
  | x :: r, m, h, hs => by
    obtain ⟨h1, h2⟩ := List.nodup_cons.mp h
    have hx : x ∈ m := hs x List.mem_cons_self
    have := nodup_len (m := m.erase x) h2 fun y hy => (List.mem_erase_of_ne (fun e => h1 (by rw [← e]; exact hy))).mpr (hs y (List.mem_cons_of_mem _ hy))
    rw [List.length_erase_of_mem hx] at this
    have hp : 0 < m.length := List.length_pos_of_mem hx
    rw [List.length_cons]
    omega
theorem dist_few {l m : List Nat} (h : ∀ c ∈ l, c ∈ m) : (dist l).length ≤ m.length := nodup_len (dist_nodup l) fun c hc => h c (mem_dist.mp hc)

/-! ### patterns -/
def capL : List Nat := [65, 66, 67, 68, 69, 70, 71, 72, 73, 74, 75, 76, 77, 78, 79, 80, 81, 82, 83, 84, 85, 86, 87, 88, 89, 90]
theorem capS : (("ABCDEFGHIJKLMNOPQRSTUVWXYZ" : String) : Str) = S capL := by decide +kernel
theorem cap_nodup : capL.Nodup := by decide
def allIn (l m : List Nat) : Bool := l.all fun c => decide (c ∈ m)
theorem allIn_iff {l m : List Nat} : allIn l m = true ↔ ∀ c ∈ l, c ∈ m := by
  unfold allIn
  rw [List.all_eq_true]
  exact ⟨fun h c hc => of_decide_eq_true (h c hc), fun h c hc => decide_eq_true (h c hc)⟩
def patB (l : List Nat) : Bool := (decide (1 ≤ l.length) && decide (l.length ≤ 20)) && (allIn l capL && decide ((dist l).length ≤ 7))
structure Pat (l : List Nat) : Prop where
  lo : 1 ≤ l.length
  hi : l.length ≤ 20
  cap : ∀ c ∈ l, c ∈ capL
  few : (dist l).length ≤ 7
theorem pat_iff {l : List Nat} : patB l = true ↔ Pat l := by
  unfold patB
  rw [Bool.and_eq_true, Bool.and_eq_true, Bool.and_eq_true, decide_eq_true_eq, decide_eq_true_eq, decide_eq_true_eq, allIn_iff]
  exact ⟨fun h => ⟨h.1.1, h.1.2, h.2.1, h.2.2⟩, fun h => ⟨⟨h.lo, h.hi⟩, h.cap, h.few⟩⟩
/-- the normal form -/
def nf (l : List Nat) : List Nat := l.map fun c => capL[(dist l).idxOf c]?.getD 0
theorem idx_dist_lt {l : List Nat} {c : Nat} (h : c ∈ l) : (dist l).idxOf c < (dist l).length := List.idxOf_lt_length_iff.mpr (mem_dist.mpr h)

/-! ### renamed patterns -/
theorem dist_map {l : List Nat} {g : Nat → Nat} (h : ∀ a ∈ l, ∀ b ∈ l, g a = g b → a = b) : dist (l.map g) = (dist l).map g := by
  revert h
  refine snocInd (P := fun l => (∀ a ∈ l, ∀ b ∈ l, g a = g b → a = b) → dist (l.map g) = (dist l).map g) (fun _ => rfl) (fun l c ih h => ?_) l
  have ih' := ih fun a ha b hb => h a (List.mem_append_left _ ha) b (List.mem_append_left _ hb)
  rw [List.map_append, List.map_cons, List.map_nil, dist_snoc, dist_snoc, ih']
  have hi : g c ∈ (dist l).map g ↔ c ∈ dist l := by
    rw [List.mem_map]
    constructor
    · rintro ⟨a, ha, e⟩
      have := h a (List.mem_append_left _ (mem_dist.mp ha)) c (List.mem_append_right _ (List.mem_singleton.mpr rfl)) e
      rw [← this]; exact ha
    · exact fun hc => ⟨c, hc, rfl⟩
  by_cases hc : c ∈ dist l
  · rw [if_pos (hi.mpr hc), if_pos hc]
  · rw [if_neg (fun z => hc (hi.mp z)), if_neg hc, List.map_append]
    rfl
theorem idx_map {m : List Nat} {g : Nat → Nat} {c : Nat} (h : ∀ a ∈ m, g a = g c → a = c) : (m.map g).idxOf (g c) = m.idxOf c := by
  induction m with
  | nil => rfl
  | cons x r ih =>
    rw [List.map_cons, List.idxOf_cons, List.idxOf_cons]
    by_cases e : x = c
    · rw [e, beq_self_eq_true, beq_self_eq_true]
      rfl
    · have e2 : ¬ g x = g c := fun z => e (h x List.mem_cons_self z)
      rw [beq_eq_false_iff_ne.mpr e, beq_eq_false_iff_ne.mpr e2]
      show _ + 1 = _ + 1
      rw [ih fun a ha => h a (List.mem_cons_of_mem _ ha)]
theorem nf_map {l : List Nat} {g : Nat → Nat} (h : ∀ a ∈ l, ∀ b ∈ l, g a = g b → a = b) : nf (l.map g) = nf l := by
  unfold nf
  rw [List.map_map, dist_map h]
  refine List.map_congr_left fun c hc => ?_
  show capL[((dist l).map g).idxOf (g c)]?.getD 0 = _
  rw [idx_map fun a ha => h a (mem_dist.mp ha) c hc]
theorem cap_inj {i j : Nat} (hi : i < 26) (hj : j < 26) (h : capL[i]?.getD 0 = capL[j]?.getD 0) : i = j := by
  have h1 : capL[i]? = some (capL[i]?.getD 0) := by rw [List.getElem?_eq_getElem (show i < capL.length from hi)]; rfl
  have h2 : capL[j]? = some (capL[j]?.getD 0) := by rw [List.getElem?_eq_getElem (show j < capL.length from hj)]; rfl
  rw [h] at h1
  exact nd_ix cap_nodup h1 h2
theorem idx_inj {m : List Nat} {a b : Nat} (ha : a ∈ m) (hb : b ∈ m) (h : m.idxOf a = m.idxOf b) : a = b := by
  have h1 := List.getElem_idxOf (List.idxOf_lt_length_iff.mpr ha)
  have h2 := List.getElem_idxOf (List.idxOf_lt_length_iff.mpr hb)
  rw [← h1, ← h2]
  congr 1
theorem Pat.idx {l : List Nat} (hp : Pat l) {c : Nat} (h : c ∈ l) : (dist l).idxOf c < 26 := by
  have := idx_dist_lt h
  have := hp.few
  omega
theorem nf_inj {l : List Nat} (hp : Pat l) : ∀ a ∈ l, ∀ b ∈ l, capL[(dist l).idxOf a]?.getD 0 = capL[(dist l).idxOf b]?.getD 0 → a = b := fun a ha b hb e =>
  idx_inj (mem_dist.mpr ha) (mem_dist.mpr hb) (cap_inj (hp.idx ha) (hp.idx hb) e)
/-- renaming by an injection to capitals keeps patterns and normal forms -/
theorem Pat.map {l : List Nat} (hp : Pat l) {g : Nat → Nat} (h : ∀ a ∈ l, ∀ b ∈ l, g a = g b → a = b) (hc : ∀ a ∈ l, g a ∈ capL) : Pat (l.map g) :=
  ⟨by rw [List.length_map]; exact hp.lo, by rw [List.length_map]; exact hp.hi, fun c hcm => by obtain ⟨a, ha, rfl⟩ := List.mem_map.mp hcm; exact hc a ha, by rw [dist_map h, List.length_map]; exact hp.few⟩
theorem cap_getD_mem {k : Nat} (h : k < 26) : capL[k]?.getD 0 ∈ capL := List.mem_of_getElem? (by rw [List.getElem?_eq_getElem (show k < capL.length from h)]; rfl)
theorem Pat.nf {l : List Nat} (hp : Pat l) : Pat (nf l) := hp.map (nf_inj hp) fun a ha => cap_getD_mem (hp.idx ha)
theorem nf_nf {l : List Nat} (hp : Pat l) : nf (nf l) = nf l := nf_map (nf_inj hp)
theorem idx_getElem {m : List Nat} (hm : m.Nodup) {i : Nat} (h : i < m.length) : m.idxOf m[i] = i :=
  nd_ix hm (List.getElem?_eq_some_iff.mpr ⟨List.idxOf_lt_length_iff.mpr (List.getElem_mem h), List.getElem_idxOf _⟩) (List.getElem?_eq_getElem h)
theorem dist_dist_map {m : List Nat} (hm : m.Nodup) (f : Nat → Nat) : m.map (fun c => f (m.idxOf c)) = (List.range m.length).map f := by
  refine List.ext_getElem? fun i => ?_
  rw [List.getElem?_map, List.getElem?_map]
  by_cases h : i < m.length
  · rw [List.getElem?_eq_getElem h, List.getElem?_eq_getElem (by rw [List.length_range]; exact h), List.getElem_range]
    show some (f (m.idxOf m[i])) = some (f i)
    rw [idx_getElem hm]
  · rw [List.getElem?_eq_none (by omega), List.getElem?_eq_none (by rw [List.length_range]; omega)]
    rfl
theorem dist_nf {l : List Nat} (hp : Pat l) : dist (nf l) = capL.take (dist l).length := by
  unfold nf
  rw [dist_map (nf_inj hp), dist_dist_map (dist_nodup l) (fun i => capL[i]?.getD 0)]
  have := hp.few
  refine List.ext_getElem? fun i => ?_
  rw [List.getElem?_map, List.getElem?_take]
  by_cases h : i < (dist l).length
  · rw [if_pos h, List.getElem?_eq_getElem (by rw [List.length_range]; exact h), List.getElem_range, List.getElem?_eq_getElem (show i < capL.length by show i < 26; omega)]
    show some (capL[i]?.getD 0) = _
    rw [List.getElem?_eq_getElem (show i < capL.length by show i < 26; omega)]
    rfl
  · rw [if_neg h, List.getElem?_eq_none (by rw [List.length_range]; omega)]
    rfl
/-- two letters made one: another normal form -/
theorem nf_merge {l : List Nat} (hp : Pat l) {d e : Nat} (hd : d ∈ l) (he : e ∈ l) : (nf (l.map fun c => if c = d then e else c) = nf l) ↔ d = e := by
  constructor
  · intro h
    refine Classical.byContradiction fun hne => ?_
    have hmem : ∀ c ∈ l.map (fun c => if c = d then e else c), c ∈ (dist l).erase d := fun c hc => by
      obtain ⟨a, ha, rfl⟩ := List.mem_map.mp hc
      by_cases q : a = d
      · rw [if_pos q]
        exact (List.mem_erase_of_ne (fun z => hne z.symm)).mpr (mem_dist.mpr he)
      · rw [if_neg q]
        exact (List.mem_erase_of_ne q).mpr (mem_dist.mpr ha)
    have hlen := dist_few hmem
    rw [List.length_erase_of_mem (mem_dist.mpr hd)] at hlen
    have hpos : 0 < (dist l).length := List.length_pos_of_mem (mem_dist.mpr hd)
    have hp' : Pat (l.map fun c => if c = d then e else c) := ⟨by rw [List.length_map]; exact hp.lo, by rw [List.length_map]; exact hp.hi, fun c hc => by
      obtain ⟨a, ha, rfl⟩ := List.mem_map.mp hc
      by_cases q : a = d
      · rw [if_pos q]; exact hp.cap e he
      · rw [if_neg q]; exact hp.cap a ha, by have := hp.few; omega⟩
    have h2 := congrArg (fun x => (dist x).length) h
    simp only [dist_nf hp, dist_nf hp', List.length_take] at h2
    have := hp.few
    have hcl : capL.length = 26 := rfl
    omega
  · intro h
    subst h
    congr 1
    have : (fun c => if c = d then d else c) = (id : Nat → Nat) := funext fun c => by
      by_cases q : c = d
      · rw [if_pos q, q]; rfl
      · rw [if_neg q]; rfl
    rw [this, List.map_id]

/-! ### defs under which a value is shown: nothing is being shown around them -/
structure FnG (P : Program) (w : World) (K : PySem.W.Frag) (mg : Str → Option Value) (base : Heap) (CX : CXT) (k : Nat) (f : Addr) (fd : FuncData) (ps : List Str) (sp : Sp) : Prop where
  len : ∀ vs H Q E, sp vs H Q E → vs.length = ps.length
  run : ∀ (A : Around) (outer : List Env) (s : Shared) (H : Hp) (args : Args) (us : List Value) (vs : List V) (Q : VK) (E : XK), A.guards = some [] → Room k A → Env0 P w K mg base A outer s H →
    BindsTo s fd args (ps.zip us) → Vals vs us → sp vs H Q E → codeAny (model P w) A (.call (.ref f) args) (CR CX outer P w H s Q E) s
section
variable {P : Program} {w : World} {K : PySem.W.Frag} {mg : Str → Option Value} {base : Heap} {CX : CXT} {k : Nat} {f : Addr} {fd : FuncData} {ps : List Str} {sp : Sp}
theorem FnG.of (F : FnOk P w K mg base CX k f fd ps sp) : FnG P w K mg base CX k f fd ps sp :=
  ⟨F.len, fun A outer s H args us vs Q E _ => F.run A outer s H args us vs Q E⟩
/-- the rule for a def, as Fun.ok -/
theorem _root_.L2.Fun.okGX {x qual : Str} {st : Stmt} {N : List Str} (F : Fun K x qual st f fd) (S : FnScope N ps (defScope st)) (len : ∀ vs H Q E, sp vs H Q E → vs.length = ps.length)
    (hbody : ∀ (cdv : Value) (A : Around) (outer : List Env) (s : Shared) (H : Hp) (vs : List V) (Q : VK) (E : XK), (A.deeper (envOfC qual (defScope st) s.heap.objs.size f cdv)).guards = some [] →
      Room k (A.deeper (envOfC qual (defScope st) s.heap.objs.size f cdv)) → sp vs H Q E →
      ∃ t, PSs (cxOf CX P w K mg base N qual (defScope st) f cdv A outer s H E) (defBody st) t ∧ t { nx := fun _ H' => Q .non H', rt := Q } (start N vs) H) :
    FnG P w K mg base CX (k + 1) f fd ps sp := by
  obtain ⟨oc, od, kV, doc, pm, an, cdv, ct, osl, rfl, lk, hcd⟩ := F.ex
  refine ⟨len, fun A outer s H args us vs Q E hgd room e0 bs rv hsp => ?_⟩
  have inK : K.In s.heap := e0.mod.kin.keeps fun c ob z => (e0.bs c ob z).1
  have kinds : ∀ y ∈ ps.zip us, (defScope st).names.lookup y.1 = some .local ∨ ((defScope st).names.lookup y.1 = some .cell ∧
      ((cellsFrom (s.heap.objs.size + 1) (defScope st).names []).lookup y.1).isSome = true) := by
    rintro ⟨n, v⟩ hy
    rcases S.par n (List.of_mem_zip hy).1 with q | q
    · exact Or.inl q
    · exact Or.inr ⟨q, PySem.W.cellsFrom_some _ _ _ (Or.inl q)⟩
  refine codeAny_call_function room.depth (inK _ _ lk) rfl S.co S.gen rfl (PySem.W.codeRec_of inK hcd) (bs _ _ _ _ ?_)
  refine wpAny_newFunctionEnv_cells S.kind kinds fun env he s1 x => ?_
  subst he
  refine ⟨(e0.mod.nolimit.keeps fun c ob z => (e0.bs c ob z).1).keeps x.toInCall.keep, codeAny_func ?_⟩
  obtain ⟨t, ht, hq⟩ := hbody cdv A outer s H vs Q E hgd (room.deeper _) hsp
  have I := inv_start (CX := CX) (E := E) S room.hd e0 (len _ _ _ _ hsp) rv x
  refine wpAny_mono (ht.run [] s1 (start N vs) H _ I hq) (fun fl s' z => ?_) fun _ _ z => z
  cases fl with
  | next =>
    obtain ⟨σ', H', J, q⟩ := z
    exact ⟨V.non, H', J.os, J.bare, J.base, J.hok, rfl, q⟩
  | ret u =>
    obtain ⟨v, σ', H', J, r, q⟩ := z
    exact ⟨v, H', J.os, J.bare, J.base, J.hok, r, q⟩
  | brk => obtain ⟨_, _, _, q⟩ := z; exact q.elim
  | cont => obtain ⟨_, _, _, q⟩ := z; exact q.elim
/-- .. where nothing is let out -/
theorem _root_.L2.Fun.okG {x qual : Str} {st : Stmt} {N : List Str} (F : Fun K x qual st f fd) (S : FnScope N ps (defScope st)) (len : ∀ vs H Q E, sp vs H Q E → vs.length = ps.length)
    (hbody : ∀ (cdv : Value) (A : Around) (outer : List Env) (s : Shared) (H : Hp) (vs : List V) (Q : VK) (E : XK), (A.deeper (envOfC qual (defScope st) s.heap.objs.size f cdv)).guards = some [] →
      Room k (A.deeper (envOfC qual (defScope st) s.heap.objs.size f cdv)) → sp vs H Q E →
      ∃ t, PSs (cxOf CX0 P w K mg base N qual (defScope st) f cdv A outer s H E).nox (defBody st) t ∧ t { nx := fun _ H' => Q .non H', rt := Q } (start N vs) H) :
    FnG P w K mg base CX0 (k + 1) f fd ps sp := L2.Fun.okGX F S len fun cdv A outer s H vs Q E g r h => by
  obtain ⟨t, h1, h2⟩ := hbody cdv A outer s H vs Q E g r h
  exact ⟨t, h1.nox, h2⟩
end
section
variable {X : Cx} {CX : CXT} {k : Nat} {f : Addr} {fd : FuncData} {ps : List Str} {sp : Sp} {x : Str} {p pos : Pos} {e : Expr} {es : List Expr} {t : TA}
theorem run_fnGS {pins : List (Addr × Obj)} {σ : L2.St} {H : Hp} {s : Shared} {Q : VK} {us : List Value} {vs : List V} {E : XK} (F : FnG X.prog X.w X.K X.mg X.base CX k f fd ps sp) (hgd : X.A.guards = some []) (hr : Room k X.A)
    (hb : Binds X.K fd ps []) (hx : ∀ (e : Value) (s' : Shared), CX X.stack H s E e s' → X.xe e s') (I : L2.Inv X pins σ H s) (r : Vals vs us) (h : sp vs H Q E) :
    wpAny (model X.prog X.w) X.A (call (.ref f) us) (EP X pins σ Q) X.xe s := by
  have b := hb s us I.kIn (by rw [List.append_nil, ← r.length]; exact F.len _ _ _ _ h)
  rw [List.append_nil] at b
  refine wpAny_call (codeAny_mono (F.run X.A X.stack s H ⟨us, []⟩ us vs Q E hgd hr I.env0 b r h) fun res s' z => ?_)
  match res, z with
  | .error e, z => exact hx e s' z
  | .ok (.ret u), z => exact I.after z
  | .ok .next, z => exact z.elim
  | .ok .brk, z => exact z.elim
  | .ok .cont, z => exact z.elim
theorem pe_callG (F : FnG X.prog X.w X.K X.mg X.base CX0 k f fd ps sp) (hgd : X.A.guards = some []) (hr : Room k X.A) (hg : Gl X x) (hm : X.mg x = some (.ref f)) (hk : PySem.W.keepIn X.K (.ref f) = true) (hb : Binds X.K fd ps [])
    (ha : PA X (e :: es) t) (hdb : (x == ("__debug__" : Str)) = false := by decide) (he : starEach (e :: es) X.env = (false, eval e X.env) :: starEach es X.env := by rfl)
    (hpl : (backTo pos (starEach es X.env)).any (·.1) = false := by rfl) : PE X (.Call (.Name x p) (e :: es) [] pos) (tCall sp [] E0 t) :=
  ⟨fun pins s σ H Q I h => wpAny_Call_Name_kw (ld_glob I hg hm (PySem.W.callWith_K (h₀ := X.base) I.ok.mod.kin hk
    (thn (ha.run pos pins s σ H _ I h) fun us s1 ⟨vs, H1, I1, r, q⟩ => ⟨I1.kIn, by
      have q' : sp (vs ++ []) H1 Q E0 := q
      rw [List.append_nil] at q'
      exact run_fnGS F hgd hr hb (fun _ _ z => z.elim) I1 r q'⟩) he hpl) hdb)⟩
theorem pe_callSG {E : L2.St → XK} (F : FnG X.prog X.w X.K X.mg X.base CX k f fd ps sp) (hgd : X.A.guards = some []) (hr : Room k X.A) (hg : Gl X x) (hm : X.mg x = some (.ref f)) (hk : PySem.W.keepIn X.K (.ref f) = true) (hb : Binds X.K fd ps [])
    (hx : ∀ σ, PassesAt CX X σ (E σ)) (ha : PA X (e :: es) t) (hdb : (x == ("__debug__" : Str)) = false := by decide)
    (he : starEach (e :: es) X.env = (false, eval e X.env) :: starEach es X.env := by rfl) (hpl : (backTo pos (starEach es X.env)).any (·.1) = false := by rfl) :
    PE X (.Call (.Name x p) (e :: es) [] pos) (tCallS sp E t) :=
  ⟨fun pins s σ H Q I h => wpAny_Call_Name_kw (ld_glob I hg hm (PySem.W.callWith_K (h₀ := X.base) I.ok.mod.kin hk
    (thn (ha.run pos pins s σ H _ I h) fun us s1 ⟨vs, H1, I1, r, q⟩ => ⟨I1.kIn, run_fnGS F hgd hr hb (fun _ _ z => hx σ pins H1 s1 _ _ I1 z) I1 r q⟩) he hpl) hdb)⟩
end
/-! ### repr -/
mutual
theorem dp_nodict {K : PySem.W.Frag} {H : Hp} : ∀ (d : PyData) (v : V), Dp K H v d → d.hasDict = false
  | .none, _, _ => rfl
  | .bool _, _, _ => rfl
  | .int _, _, _ => rfl
  | .str _, _, _ => rfl
  | .list ds, _, h => by cases h with | lst _ h2 => exact dp_nodicts ds _ h2
  | .tuple ds, _, h => by cases h with | tup _ h2 => exact dp_nodicts ds _ h2
  | .dict _, _, h => by cases h
theorem dp_nodicts {K : PySem.W.Frag} {H : Hp} : ∀ (ds : List PyData) (vs : List V), DpAll K H vs ds → PyData.hasDictAll ds = false
  | [], _, _ => rfl
  | d :: ds, _, h => by
    cases h with
    | cons h1 h2 =>
      have e1 := dp_nodict d _ h1
      have e2 := dp_nodicts ds _ h2
      simp [PyData.hasDictAll, e1, e2]
end
def rRepr (K : PySem.W.Frag) : List V → Hp → VK → Prop := fun xs H Q => ∃ x d, xs = [x] ∧ Dp K H x d ∧ d.showable = true ∧ d.depth ≤ 64 ∧ d.shown.length ≤ sizeLine ∧ Q (.str d.shown) H
theorem call_repr {X : Cx} (hg : X.A.guards = some []) (hu : X.A.units + 66 < cLine) : CallR X (.builtin "repr") (rRepr X.K) := by
  intro pins s σ H xs us Q I r h
  obtain ⟨x, d, rfl, hd, hs, hdep, hsz, q⟩ := h
  obtain ⟨u, rfl, rx⟩ := vals1 r
  have go : ∀ (h' : Heap) (t tk : Tok), (∀ b o, s.heap.get? b = some o → h'.get? b = some o) → EP X pins σ Q (.str d.shown t) { s with heap := h', toks := tk } :=
    fun h' t tk kp => ⟨.str d.shown, H, I.kept kp, ⟨t, rfl⟩, q⟩
  obtain ⟨as, rd⟩ := Dp.reads I d x u hd rx
  cases hd with
  | non => cases rx; exact P.repr_of_none (go _ _ _ fun _ _ z => z)
  | bl b => cases rx; exact P.repr_of_bool (go _ _ _ fun _ _ z => z)
  | int i => obtain ⟨t, rfl⟩ := rx; exact P.repr_of_int (of_decide_eq_true hs) (go _ _ _ fun _ _ z => z)
  | str z => obtain ⟨t, rfl⟩ := rx; exact P.repr_of_str (go _ _ _ fun _ _ z => z) hsz
  | lst h1 h2 =>
    cases rx
    exact repr_of_reads' rd hs (fun z => by rw [dp_nodict _ _ (.lst h1 h2)] at z; cases z) hg (by omega) (fun _ _ z => z) (fun h' t tk kp => go h' t tk kp) hsz
  | tup h1 h2 =>
    cases rx
    exact repr_of_reads' rd hs (fun z => by rw [dp_nodict _ _ (.tup h1 h2)] at z; cases z) hg (by omega) (fun _ _ z => z) (fun h' t tk kp => go h' t tk kp) hsz
theorem call_reprK {X : Cx} {K : PySem.W.Frag} (hg : X.A.guards = some []) (hu : X.A.units + 66 < cLine) (h : X.K = K := by rfl) : CallR X (.builtin "repr") (rRepr K) := h ▸ call_repr hg hu
theorem un66 {k : Nat} {A : Around} (hr : Room k A) : A.units + 66 < cLine := by have := hr.un; omega
/-! ### the end for a law whose def is one of these -/
theorem law_callG {P : Program} {w : World} {K : PySem.W.Frag} {mg mb : Str → Option Value} {k : Nat} {fa a : Addr} {fd : FuncData} {sp : Sp} {s₁ : Shared} {vs : List Value} {ns : List Int}
    (inK : K.In s₁.heap) (top : s₁.heap.Ns mainGlobals mg) (blt : s₁.heap.Ns builtinsNs mb) (blts : ∀ x : Str, x ≠ "__name__" → mb x = bootBuiltins x) (lim : s₁.heap.NoLimit) (gens : s₁.gens = #[])
    (ha : s₁.heap.get? a = some { cls := .type "list", data := .seq vs.toArray }) (isI : IntsAre vs ns) (size : ns.length ≤ sizeLine) (room : Room k callerA)
    (F : ∀ base : Heap, K.In base → base.Ns mainGlobals mg → FnG P w K mg base CX0 k fa fd ["script"] sp) (hbind : ∀ (s : Shared) (u : Value), BindsTo s fd ⟨[u], []⟩ [("script", u)])
    (hsp : ∀ H : Hp, Only H → SqL K H a (ns.map V.int) → sp [.ref a] H (fun v _ => v = .bl true) fun _ _ _ => False) :
    codeAny (model P w) callerA (.call (.ref fa) ⟨[.ref a], []⟩) (fun r s' => r = .ok (.ret (.bool true)) ∧ OldK s₁.heap s'.heap ∧ s'.os = s₁.os ∧ AllBare s'.gens) s₁ := by
  have rv : Vals (ns.map V.int) vs := vals_ints isI
  have core : ∀ H : Hp, Only H → SqL K H a (ns.map V.int) → HOk P w H s₁.heap → (∀ b, H b ≠ none → b = a) → (H a ≠ none → K.lookup a = none) →
      codeAny (model P w) callerA (.call (.ref fa) ⟨[.ref a], []⟩) (fun r s' => r = .ok (.ret (.bool true)) ∧ OldK s₁.heap s'.heap ∧ s'.os = s₁.os ∧ AllBare s'.gens) s₁ := by
    intro H only sq hok tracked notK
    have free : ∀ {b : Addr} {o : Obj}, s₁.heap.get? b = some o → (∀ es ep, o.data = .dict es ep → b ≠ a) := by
      intro b o e es ep d z
      rw [z, ha] at e
      cases e
      cases d
    have nsH : ∀ {b : Addr} {m : Str → Option Value}, s₁.heap.Ns b m → (hidT s₁.heap H).Ns b m := by
      rintro b m ⟨o, es, ep, e, d, rest⟩
      refine ⟨o, es, ep, hidT_get e ?_, d, rest⟩
      cases q : H b with
      | none => rfl
      | some u => exact absurd (tracked b (by rw [q]; exact fun z => nomatch z)) (free e es ep d)
    have KH : K.In (hidT s₁.heap H) := by
      intro b o e
      refine hidT_get (inK b o e) ?_
      cases q : H b with
      | none => rfl
      | some u =>
        have hb := tracked b (by rw [q]; exact fun z => nomatch z)
        rw [hb] at e q
        rw [notK (by rw [q]; exact fun z => nomatch z)] at e
        cases e
    obtain ⟨mc, l1, l2⟩ := lim
    have e0 : Env0 P w K mg (hidT s₁.heap H) callerA [] s₁ H :=
      ⟨rfl, ⟨KH, nsH top, ⟨mb, nsH blt, blts⟩, ⟨mc, nsH l1, l2⟩⟩, fun b o e => of_hidT e, Nat.le_of_eq (hidT_size _ _), trivial, (fun b hb => nomatch hb), hok, .of_eq gens⟩
    refine codeAny_mono ((F _ KH (nsH top)).run callerA [] s₁ H ⟨[.ref a], []⟩ [.ref a] [.ref a] _ _ rfl room e0 (hbind s₁ (.ref a)) (.cons rfl .nil) (hsp H only sq)) fun r s' z => ?_
    match r, z with
    | .error _, z => exact z.elim
    | .ok .next, z => exact z.elim
    | .ok .brk, z => exact z.elim
    | .ok .cont, z => exact z.elim
    | .ok (.ret u), z =>
      obtain ⟨v, H', os, bare, un, hok', rel, tru⟩ := z
      replace tru : v = .bl true := tru
      subst tru
      obtain rfl : u = Value.bool true := rel
      refine ⟨rfl, OldK.of_keep fun b o e => ?_, os, bare⟩
      rcases only b with q | ⟨ob, xs, q⟩
      · exact un.keep b o e q (fun h => nomatch h) (fun h => nomatch h)
      · have same1 := (hok b _ q).1
        have same2 := (hok' b _ (un.frzs b ob _ q)).1
        rw [e] at same1
        cases same1
        exact same2
  cases hk : K.lookup a with
  | some o =>
    have e := inK a o hk
    rw [ha] at e
    cases e
    exact core (fun _ => none) (fun _ => Or.inl rfl) (Or.inr ⟨_, vs.toArray, _, hk, rfl, rfl, rfl, by rw [List.size_toArray, isI.length]; exact size, by simpa using rv⟩)
      (fun _ _ z => nomatch z) (fun _ z => absurd rfl z) fun z => absurd rfl z
  | none =>
    have at_a : ∀ b, b ≠ a → (if b = a then some (HO.frz { cls := .type "list", data := .seq vs.toArray } (.lst (ns.map V.int))) else none) = none := fun b z => if_neg z
    refine core (fun b => if b = a then some (.frz { cls := .type "list", data := .seq vs.toArray } (.lst (ns.map V.int))) else none) (fun b => ?_)
      (Or.inl (Or.inr ⟨{ cls := .type "list", data := .seq vs.toArray }, if_pos rfl⟩)) (fun b u z => ?_) (fun b z => Classical.byContradiction fun q => z (at_a b q)) fun _ => hk
    · by_cases q : b = a
      · exact Or.inr ⟨_, _, if_pos q⟩
      · exact Or.inl (at_a b q)
    · by_cases q : b = a
      · have z2 := (if_pos q).symm.trans z
        cases z2
        subst q
        exact ⟨ha, by rw [List.length_map]; exact size, vs, _, rv, ha⟩
      · have z2 := (at_a b q).symm.trans z
        cases z2
theorem walk_ofG {l : PySem.W.OpenLaw} {k : Nat} {q : Program} {loose : List Str} {XP : (Str → Option Value) → Heap → Prop} {YP : World → Heap → Prop} {d : DefRec} {K : Params → PySem.W.Frag} {sp : World → Sp}
    (hn : l.most = some 63) (hdf : d.params.defaults = []) (hr : Room k callerA) (hY : ∀ (w : World) (h : Heap), YP w h → (K w.params).In h)
    (F : ∀ (w : World) (mg : Str → Option Value) (fa : Addr) (h : Heap), (K w.params).In h → h.Ns mainGlobals mg → mg d.name = some (.ref fa) →
      ∃ fd : FuncData, (∀ (s : Shared) (u : Value), BindsTo s fd ⟨[u], []⟩ [("script", u)]) ∧
        ∀ base : Heap, (K w.params).In base → base.Ns mainGlobals mg → FnG l.prog w (K w.params) mg base CX0 k fa fd ["script"] (sp w))
    (hsp : ∀ (w : World) (H : Hp) (a : Addr) (ns : List Int), ns.length ≤ 63 → Only H → SqL (K w.params) H a (ns.map V.int) → sp w [.ref a] H (fun v _ => v = .bl true) fun _ _ _ => False) :
    PySem.W.WalkO q loose XP YP l.row.toRowW d [] (fun f vs => PySem.call f vs) := by
  refine Att.attach_call hn hdf fun w s₀ s₁ mg mb fa o pm cd doc a vs ns G Y ho hd hcd hmg hobj hints hlen hg => ?_
  obtain ⟨fd, hb, hF⟩ := F w mg fa _ (hY w _ Y) G.T.g hmg
  exact law_callG (hY w _ Y) G.T.g G.T.b G.T.builtins G.T.nolimit hg hobj hints (Nat.le_trans hlen (by decide)) hr hF hb (fun H hO hS => hsp w H a ns hlen hO hS)

/-! ### an exception that a suite puts away: behind the try it is an object like others -/
/-- an exception of the class cls with the own dict d, at a -/
def ExcO (cls : Value) (d : Option Addr) (a : Addr) : HO := .ext fun h => ∃ (oe : Obj) (vs : Array Value), h.get? a = some oe ∧ Zc cls d oe ∧ oe.data = .fields vs
def endKeep (i : Nat) (a : Addr) (cls : Value) (d : Option Addr) (D : Ends) : Ends where
  nx := fun σ' H' => (H' a = none → D.nx (List.set σ' i none) (upd H' a (ExcO cls d a)))
  rt := D.rt
  bk := fun σ' H' => D.bk (List.set σ' i none) H'
  ct := fun σ' H' => D.ct (List.set σ' i none) H'
def wKeep (K : PySem.W.Frag) (c : Value) (i : Nat) (ts : Addr → Value → Option Addr → TS) (Wout : WX) (D : Ends) : WX := fun cls d σ H =>
  ∃ b, PySem.W.exmOne K cls c = some b ∧ (b = true → ∀ a, H a = none → ts a cls d (endKeep i a cls d D) (List.set σ i (some (.ref a))) H) ∧ (b = false → Wout cls d σ H)
section
variable {X : Cx} {pins : List (Addr × Obj)} {σ : L2.St} {H : Hp} {s : Shared}
/-- what was made since the entry and is untracked is tracked from now on -/
theorem Inv.keepExc {a : Addr} {oe : Obj} {vs : Array Value} {cls : Value} {d : Option Addr} (I : L2.Inv X ((a, oe) :: pins) σ H s) (hz : Zc cls d oe) (hd : oe.data = .fields vs)
    (new : ∀ o, X.s_0.heap.get? a = some o → X.H_0 a = none → a ∉ X.ex → False) (np : ∀ p ∈ X.pn ++ pins, p.1 ≠ a) : L2.Inv X pins σ (upd H a (ExcO cls d a)) s := by
  obtain ⟨he, na, nL, nF, nC⟩ := I.pin (a, oe) (List.mem_append_right _ List.mem_cons_self)
  have off : ∀ {b : Addr} {u : HO}, H b = some u → (upd H a (ExcO cls d a)) b = some u := fun {b u} z => by rw [upd_ne (ne_of_none z na)]; exact z
  have un : Un X.fs X.ex X.H_0 (upd H a (ExcO cls d a)) X.s_0.heap s.heap :=
    { keep := I.base.keep
      slot := I.base.slot
      there := I.base.there
      free := fun b o q n hx => by
        by_cases e : b = a
        · subst e; exact (new o q n hx).elim
        · rw [upd_ne e]; exact I.base.free b o q n hx
      tups := fun b xs q => off (I.base.tups b xs q)
      frzs := fun b o u q => off (I.base.frzs b o u q)
      tbls := fun b ps q => by obtain ⟨more, z⟩ := I.base.tbls b ps q; exact ⟨more, off z⟩ }
  have there : ObjOk X.prog X.w (upd H a (ExcO cls d a)) s.heap a (ExcO cls d a) :=
    ⟨⟨oe, vs, he, hz, hd⟩, ⟨oe, he⟩, fun h1 h2 ⟨o, v, q1, q2, q3⟩ kp => ⟨o, v, kp o q1, q2, q3⟩⟩
  refine ⟨I.ok, I.os, I.bare, un, I.loc, I.cell, ?_, fun x c z => ?_, fun p hp => ?_, fun b u z => ?_, I.len⟩
  · rw [upd_ne (Ne.symm nL)]; exact I.free
  · obtain ⟨v, hv⟩ := I.cell x c z
    have nc : c ≠ a := fun e => by
      subst e
      obtain ⟨o, h1, h2⟩ := hv
      have eo : oe = o := Option.some.inj (he.symm.trans h1)
      exact nC v (by show oe.data = _; rw [eo]; exact h2)
    rw [upd_ne nc]
    exact I.freeC x c z
  · have q := I.pin p (by
      rcases List.mem_append.mp hp with h | h
      · exact List.mem_append_left _ h
      · exact List.mem_append_right _ (List.mem_cons_of_mem _ h))
    exact ⟨q.1, by rw [upd_ne (np p hp)]; exact q.2.1, q.2.2⟩
  · by_cases e : b = a
    · subst e
      rw [upd_same] at z
      cases z
      exact there
    · rw [upd_ne e] at z
      refine (I.hok b u z).stay (fun _ _ _ q => q) (fun c q => off q) (fun c xs q => off q)
end
section
variable {X : Cx} {x n : Str} {c : Value} {i : Nat} {body suite : List Stmt} {b₀ : Stmt} {np pos pos' : Pos} {tb : WX → TS} {ts : Addr → Value → Option Addr → TS} {Wout : WX}
/-- try: body / except x as n: suite, where the suite may put the exception away -/
theorem ps_try_keep (hs : X.stack = X.env :: X.outer) (hf : X.env.frame = some X.env.locals) (hN : X.N.Nodup) (hi : X.N[i]? = some n) (hln : X.env.kindOf n = some .local) (hc : Names X x c) (tk : Takes X Wout)
    (hb : ∀ (W : WX) (pn : List (Addr × Obj)) (xe : Value → Shared → Prop), Takes (X.tr pn xe) W → PassesOwn (model X.prog X.w) X.A X.env xe → PSs (X.tr pn xe) body (tb W))
    (hsu : ∀ (a : Addr) (oe : Obj) (cls : Value) (d : Option Addr) (pn : List (Addr × Obj)), Zc cls d oe → (∃ vs, oe.data = .fields vs) → PSs (X.suite a ((a, oe) :: pn)) (b₀ :: suite) (ts a cls d)) :
    PS X (.Try body [.ExceptHandler (some (.Name x np)) (some n) (b₀ :: suite) pos'] [] [] pos) (fun D σ H => tb (wKeep X.K c i ts Wout D) D σ H) := by
  constructor
  intro pins s σ H D I h
  have frames : X.A.frames = some (X.env :: X.outer) := by rw [I.ok.frames, hs]
  refine wpAny_Try_except (wpAny_mono ((hb (wKeep X.K c i ts Wout D) (X.pn ++ pins) _ (fun u s' xx => ?caught) PassesOwn.looking).run [] s σ H D (I.toTry _) h) (fun f s1 z => ?through) (fun _ _ z => z))
  case through =>
    cases f with
    | next => obtain ⟨σ', H', J, q⟩ := z; exact wpAny_execs_nil ⟨σ', H', J.ofTry I.ok, q⟩
    | brk => obtain ⟨σ', H', J, q⟩ := z; exact ⟨σ', H', J.ofTry I.ok, q⟩
    | cont => obtain ⟨σ', H', J, q⟩ := z; exact ⟨σ', H', J.ofTry I.ok, q⟩
    | ret u => obtain ⟨v, σ', H', J, r, q⟩ := z; exact ⟨v, σ', H', J.ofTry I.ok, r, q⟩
  case caught =>
    obtain ⟨a, B, sI, pins', σ', H', cls, d, rfl, JT, nb, up, sky, na, os, ag, b, test, yes, no⟩ := xx
    have J : L2.Inv X pins σ' H' sI := JT.ofTry I.ok
    show wpAny (model X.prog X.w) X.A (noteFrame (.ref a) X.env) _ _ _
    refine Sky.land Zc.steady frames hf (show Sky B (X.env :: X.outer) a (Zc cls d) X.env.locals s'.heap by rw [← hs]; exact sky) fun h3 fl3 up3 => ?_
    have J3 : L2.Inv X pins σ' H' { s' with heap := h3 } := J.landed nb fl3.1 (up.trans up3) os ag
    obtain ⟨oe3, vs3, he3, hz3, hd3⟩ := fl3.there
    have offFrames : a ∉ frs (X.env :: X.outer) := fun hm => by
      obtain ⟨_, o, eo, hnf⟩ := (fl3.2.2.1).mem hm
      exact hnf vs3 (by rw [← Option.some.inj (he3.symm.trans eo)]; exact hd3)
    have fresh : sI.heap.get? a = none := by
      cases q : sI.heap.get? a with
      | none => rfl
      | some o =>
        have z := nb a o q (by rw [hs]; exact offFrames)
        rw [fl3.2.1] at z
        cases z
    have nL : a ≠ X.env.locals := fun z => offFrames (List.mem_filterMap.mpr ⟨X.env, List.mem_cons_self, by rw [hf, z]⟩)
    have nF : a ∉ X.fs := fun hm => by
      obtain ⟨e, he, q⟩ := List.mem_filterMap.mp hm
      exact offFrames (List.mem_filterMap.mpr ⟨e, List.mem_cons_of_mem _ he, q⟩)
    have S3 := J3.suite he3 hd3 na nL nF
    refine wpAny_handleBy_cons (codeAny_handlers_test ?_) (fun q => nomatch q)
    have looks : PySem.W.Looks (model X.prog X.w) h3 (typeOf (.ref a)) cls := fun A Q E s k q => wpAny_typeOf_ref (k _ _ he3) (by rw [hz3.1]; exact q)
    have named : ∀ {Q : Value → Shared → Prop} {E : Value → Shared → Prop}, Q c { s' with heap := h3 } → wpAny (model X.prog X.w) (X.A.mark (some (.ref a))) (eval (.Name x np) X.env) Q E { s' with heap := h3 } := by
      intro Q E q
      obtain ⟨glob, dbg, own | ⟨notOwn, boot, notName⟩⟩ := hc
      · exact ld_glob (X := X.suite a ((a, oe3) :: (X.pn ++ pins))) S3 glob own q dbg
      · exact ld_blt (X := X.suite a ((a, oe3) :: (X.pn ++ pins))) S3 glob notOwn boot q notName dbg
    refine named ((PySem.W.exm_one (M := model X.prog X.w) (J3.kIn) looks test).here ?_)
    cases b with
    | true =>
      refine codeAny_handlers_suite_as (HandSPX.lands_againZ fl3 fun h4 fl4 up4 => ?_)
      have J4 : L2.Inv X pins σ' H' { s' with heap := h4 } := J.landed nb fl4.1 ((up.trans up3).trans up4) os ag
      obtain ⟨oe4, vs4, he4, hz4, hd4⟩ := fl4.there
      refine store_ok (X := X.suite a ((a, oe4) :: (X.pn ++ pins))) (v := .ref a) (J4.suite he4 hd4 na nL nF) hN hi (.inl hln) rfl (fun s5 S5 => ?_) (.inr hln)
      refine wpAny_mono ((hsu a oe4 cls d (X.pn ++ pins) hz4 ⟨_, hd4⟩).run [] s5 _ H' _ S5 (yes rfl a na)) (fun f s6 z => ?_) (fun _ _ z => z.elim)
      have away : ∀ {σ6 : L2.St} {H6 : Hp} {Q : Shared → Prop}, L2.Inv (X.suite a ((a, oe4) :: (X.pn ++ pins))) [] σ6 H6 s6 → (∀ s7, L2.Inv X ((a, oe4) :: pins) (List.set σ6 i none) H6 s7 → Q s7) →
          wpAny (model X.prog X.w) X.A (do bindName X.env n .none; unbindBehindTheSuite X.env n pos') (fun _ s7 => Q s7) X.xe s6 := by
        intro σ6 H6 Q S6 hq
        refine gone_ok (X := X) (pins := (a, oe4) :: pins) ((S6.unsuite I.ok).pins_of fun p hp => ?_) hN hi hln hq
        rcases List.mem_cons.mp hp with z | z
        · subst z; exact S6.pin _ (List.mem_append_left _ List.mem_cons_self)
        · exact S6.pin p (List.mem_append_left _ (List.mem_cons_of_mem _ (List.mem_append_right _ z)))
      have back : ∀ {σ7 : L2.St} {H7 : Hp} {s7 : Shared}, L2.Inv X ((a, oe4) :: pins) σ7 H7 s7 → L2.Inv X pins σ7 H7 s7 := fun S7 =>
        S7.pins_of fun p hp => S7.pin p (List.mem_append_right _ (List.mem_cons_of_mem _ hp))
      cases f with
      | next =>
        obtain ⟨σ6, H6, S6, q6⟩ := z
        refine away S6 fun s7 S7 => ⟨_, _, Inv.keepExc S7 hz4 hd4 (fun o e0 n0 x0 => ?_) (fun p hp e => ?_), q6 (S7.pin (a, oe4) (List.mem_append_right _ List.mem_cons_self)).2.1⟩
        · have z := J.base.keep a o e0 n0 nF x0
          rw [fresh] at z
          cases z
        · have z := (J.pin p hp).1
          rw [e, fresh] at z
          cases z
      | brk => obtain ⟨σ6, H6, S6, q6⟩ := z; exact away S6 fun s7 S7 => ⟨_, _, back S7, q6⟩
      | cont => obtain ⟨σ6, H6, S6, q6⟩ := z; exact away S6 fun s7 S7 => ⟨_, _, back S7, q6⟩
      | ret u => obtain ⟨v6, σ6, H6, S6, r6, q6⟩ := z; exact away S6 fun s7 S7 => ⟨_, _, _, back S7, r6, q6⟩
    | false =>
      show wpAny _ X.A (handleBy (.ref a) X.env []) _ _ _
      obtain ⟨k1, k2, k3, oe, vs, T, oT, ts', he, hz, hd, h1, hr⟩ := id fl3
      refine wpAny_handleBy_nil ?_
      unfold PySem.passOn
      refine wpAny_bind (wpAny_field he hd h1 ?_)
      rw [if_neg (show ¬ ((Value.ref T == Value.none) = true) from by simp)]
      have up2 : wpAny (model X.prog X.w) X.A (setFlight (.ref a) X.env.frame) (fun _ s4 => wpAny (model X.prog X.w) X.A (throw (.ref a) : Sem Flow) (SP X pins D) X.xe s4) X.xe { s' with heap := h3 } := by
        rw [hf]
        exact HandSPX.setFlight_upZ fl3 fun h4 hh4 up4 => wpAny_throw (tk _ _
          ⟨a, B, sI, pins, σ', H', cls, d, rfl, J, nb, (up.trans up3).trans up4, .inr (.inr (by rw [hs]; exact hh4)), na, os, ag, no rfl⟩)
      first
        | exact wpAny_bind (wpAny_pure (wpAny_bind up2))
        | exact wpAny_bind up2
end
/-! ### isinstance of such an object -/
def rIsO (K : PySem.W.Frag) : List V → Hp → VK → Prop := fun xs H Q => ∃ (a D : Addr) (c : V) (cv : Value) (b : Bool), xs = [.ref a, c] ∧ H a = some (ExcO (.ref D) none a) ∧ ExcC K D ∧ (∀ u, RelV c u → u = cv) ∧ PySem.W.kitOne K (.ref D) cv = some b ∧ Q (.bl b) H
theorem call_isO {X : Cx} : CallR X (.builtin "isinstance") (rIsO X.K) := by
  intro pins s σ H xs us Q I r h
  obtain ⟨a, D, c, cv, b, rfl, ha, C, hcv, e, q⟩ := h
  obtain ⟨u1, u2, rfl, rx, rt⟩ := vals2 r
  cases rx
  obtain rfl := hcv _ rt
  obtain ⟨⟨oe, vs, he, hz, hd⟩, _⟩ := (show ObjOk X.prog X.w H s.heap a (ExcO (.ref D) none a) from I.hok a _ ha)
  have J : PySem.W.InstAt s.heap a oe D none := ⟨he, hz.1, by unfold PySem.W.notCls; rw [hd] <;> rfl, by rw [hz.2]; trivial⟩
  exact PySem.W.kia_one (PySem.W.handS_kitx_exc C.hg C.hk C.hs C.hd C.ha C.hn C.ht C.hm) I.kIn J e (fun z => nomatch z) fun tk => ⟨.bl b, H, I.kept (t' := tk) fun _ _ z => z, rfl, q⟩
theorem call_isOK {X : Cx} {K : PySem.W.Frag} (h : X.K = K := by rfl) : CallR X (.builtin "isinstance") (rIsO K) := h ▸ call_isO
/-! ### list.count of truth values -/
def rCntB (K : PySem.W.Frag) : V → List V → Hp → VK → Prop := fun x xs H Q => ∃ (p : Addr) (bs : List Bool) (k : Bool), x = .ref p ∧ xs = [.bl k] ∧ SqL K H p (bs.map V.bl) ∧ Q (.int (bs.count k : Nat)) H
theorem dpAll_bl {K : PySem.W.Frag} {H : Hp} : ∀ bs : List Bool, DpAll K H (bs.map V.bl) (bs.map PyData.bool)
  | [] => .nil
  | b :: r => .cons (.bl b) (dpAll_bl r)
theorem countIn_bl (k : Bool) : ∀ bs : List Bool, PySem.Spec.countIn (.bool k) (bs.map PyData.bool) = ((bs.count k : Nat) : Int)
  | [] => rfl
  | b :: r => by
    have ih := countIn_bl k r
    rw [List.map_cons, PySem.Spec.countIn, ih, List.count_cons]
    cases b <;> cases k <;> simp [PySem.Spec.same] <;> omega
theorem mt_countB {X : Cx} : MtR X "list.count" (rCntB X.K) := by
  intro pins s σ H x xs v us Q I rx rxs h
  obtain ⟨p, bs, k, rfl, rfl, hs, q⟩ := h
  cases rx
  obtain ⟨u, rfl, ru⟩ := rxs.one
  cases ru
  obtain ⟨its, rv, pl, hlen⟩ := I.list hs
  obtain ⟨as, ra⟩ := Dp.readsAll I _ _ _ (dpAll_bl bs) rv
  refine PyProof.Rows.count_list_bools (k := k) pl.isList ra ?_ ?_
  · rw [List.all_map]
    exact List.all_eq_true.mpr fun _ _ => rfl
  · rw [countIn_bl]
    exact ⟨.int (bs.count k : Nat), H, I.tok _, ⟨s.toks, rfl⟩, q⟩

/-! ### the program's error classes, as the top has made them -/
structure Exn (K : PySem.W.Frag) (D PE : Addr) : Prop where
  x : PySem.W.excIn K D [.type "ValueError", .type "Exception", .type "BaseException", .type "object"] "ValueError.__new__" = true
  k : PySem.W.keepIn K (.ref D) = true
  b : PySem.W.subIn K (.ref D) (.type "BaseException") = some true
  t : PySem.W.typeIn K (.ref D) = some (.type "type")
  m : PySem.W.exmOne K (.ref D) (.ref PE) = some true
  i : ExcC K D
  v : PySem.W.kitOne K (.ref D) (.type "ValueError") = some true
  p : PySem.W.kitOne K (.ref D) (.ref PE) = some true
theorem exn_mk {K : PySem.W.Frag} {D PE : Addr} (x : PySem.W.excIn K D [.type "ValueError", .type "Exception", .type "BaseException", .type "object"] "ValueError.__new__" = true) (k : PySem.W.keepIn K (.ref D) = true)
    (b : PySem.W.subIn K (.ref D) (.type "BaseException") = some true) (t : PySem.W.typeIn K (.ref D) = some (.type "type")) (s : PySem.W.subIn K (.ref D) (.ref PE) = some true)
    (h1 : PySem.W.subIn K (.ref PE) (.type "BaseException") = some true) (h2 : PySem.W.hasDictIn K PE = true) (h3 : PySem.W.typeIn K (.ref PE) = some (.type "type"))
    (hg : PySem.W.findIn K (.ref D) "__getattribute__" = some (some (.builtin "BaseException.__getattribute__"))) (hk : PySem.W.findIn K (.ref D) "__getattr__" = some none) (hd : PySem.W.hasDictIn K D = true)
    (ha : PySem.W.findIn K (.ref D) "__class__" = some (some (.builtin "object.__class__"))) (hn : PySem.W.specialIn K (.builtin "object.__class__") "__get__" = some (some (.builtin "getset_descriptor.__get__")))
    (ht : PySem.W.takesIn K (.builtin "object.__class__") = some true) (hm : PySem.W.mroIn K D (.type "object") = some true)
    (v : PySem.W.kitOne K (.ref D) (.type "ValueError") = some true) (p : PySem.W.kitOne K (.ref D) (.ref PE) = some true) : Exn K D PE :=
  ⟨x, k, b, t, PySem.W.exm_ref h1 h2 h3 s, ⟨hg, hk, b, hd, ha, hn, ht, hm⟩, v, p⟩
/-- of a table of classes just the j-th is that of an error of the class D -/
def Kinds (K : PySem.W.Frag) (D : Addr) (tab : List Addr) (j : Nat) : Prop := ∀ (i : Nat) (C : Addr), tab[i]? = some C → PySem.W.kitOne K (.ref D) (.ref C) = some (decide (i = j))
theorem kinds_nil {K : PySem.W.Frag} {D : Addr} {n j : Nat} : ∀ (i : Nat) (C : Addr), ([] : List Addr)[i]? = some C → PySem.W.kitOne K (.ref D) (.ref C) = some (decide (i + n = j)) := fun i C h => by simp at h
theorem kinds_cons {K : PySem.W.Frag} {D C0 : Addr} {tab : List Addr} {n j : Nat} (h0 : PySem.W.kitOne K (.ref D) (.ref C0) = some (decide (n = j)))
    (h : ∀ (i : Nat) (C : Addr), tab[i]? = some C → PySem.W.kitOne K (.ref D) (.ref C) = some (decide (i + (n + 1) = j))) : ∀ (i : Nat) (C : Addr), (C0 :: tab)[i]? = some C → PySem.W.kitOne K (.ref D) (.ref C) = some (decide (i + n = j))
  | 0, C, e => by
    have e' : C0 = C := Option.some.inj e
    subst e'
    rw [Nat.zero_add]
    exact h0
  | i + 1, C, e => by
    have q := h i C e
    rw [show i + 1 + n = i + (n + 1) by omega]
    exact q
theorem bits_one (n : Nat) : ∀ j, j < n → ((List.range n).map fun i => decide (i = j)).count true = 1 := by
  intro j hj
  rw [List.count_eq_countP, List.countP_map]
  have : ∀ m, (List.range m).countP ((fun x => x == true) ∘ fun i => decide (i = j)) = if j < m then 1 else 0 := fun m => by
    induction m with
    | zero => rfl
    | succ m ih =>
      rw [List.range_succ, List.countP_append, ih]
      by_cases h : j < m
      · rw [if_pos h, if_pos (by omega)]
        have : ¬ m = j := by omega
        simp [this]
      · rw [if_neg h]
        by_cases e : m = j
        · subst e; simp
        · rw [if_neg (by omega)]
          simp [e]
  rw [this, if_pos hj]

/-! ### values as data -/
def tyName : PyData → String
  | .none => "NoneType" | .bool _ => "bool" | .int _ => "int" | .str _ => "str" | .list _ => "list" | .tuple _ => "tuple" | .dict _ => "dict"
theorem dp_ty {K : PySem.W.Frag} {H : Hp} {x : V} {d : PyData} (h : Dp K H x d) : TyX K H x (.type (tyName d)) := by
  cases h with
  | non => exact .base .non
  | bl b => exact .base (.bl b)
  | int i => exact .base (.int i)
  | str z => exact .base (.str z)
  | lst h1 _ =>
    rcases h1 with (h1 | ⟨o, h1⟩) | ⟨o, its, n, h1, h2, _⟩
    · exact .base (.lst h1)
    · exact .base (.frz h1)
    · exact .kList h1 h2
  | tup h1 _ =>
    rcases h1 with (h1 | ⟨o, h1⟩) | ⟨o, its, n, h1, h2, _⟩
    · exact .base (.tup h1)
    · exact .fTuple h1
    · exact .kTuple h1 h2
def dStr : PyData → Bool | .str _ => true | _ => false
def dInt : PyData → Bool | .int _ => true | .bool _ => true | _ => false
def dBool : PyData → Bool | .bool _ => true | _ => false
def dTup : PyData → Bool | .tuple _ => true | _ => false
def dList : PyData → Bool | .list _ => true | _ => false
theorem tyName_mem (d : PyData) : tyName d ∈ (["NoneType", "bool", "int", "str", "list", "tuple", "dict"] : List String) := by cases d <;> simp [tyName]
theorem kitN_str : ∀ n ∈ (["NoneType", "bool", "int", "str", "list", "tuple", "dict"] : List String), kitB n "str" = some (n == "str") := by decide +kernel
theorem kit_str {K : PySem.W.Frag} (d : PyData) : PySem.W.kitOne K (.type (tyName d)) (.type "str") = some (dStr d) := by
  refine kit_ty ((kitN_str _ (tyName_mem d)).trans ?_)
  cases d <;> simp [tyName, dStr]
theorem kitN_int : ∀ n ∈ (["NoneType", "bool", "int", "str", "list", "tuple", "dict"] : List String), kitB n "int" = some (n == "int" || n == "bool") := by decide +kernel
theorem kit_int {K : PySem.W.Frag} (d : PyData) : PySem.W.kitOne K (.type (tyName d)) (.type "int") = some (dInt d) := by
  refine kit_ty ((kitN_int _ (tyName_mem d)).trans ?_)
  cases d <;> simp [tyName, dInt]
theorem kitN_bool : ∀ n ∈ (["NoneType", "bool", "int", "str", "list", "tuple", "dict"] : List String), kitB n "bool" = some (n == "bool") := by decide +kernel
theorem kit_bool {K : PySem.W.Frag} (d : PyData) : PySem.W.kitOne K (.type (tyName d)) (.type "bool") = some (dBool d) := by
  refine kit_ty ((kitN_bool _ (tyName_mem d)).trans ?_)
  cases d <;> simp [tyName, dBool]
theorem kitN_tup : ∀ n ∈ (["NoneType", "bool", "int", "str", "list", "tuple", "dict"] : List String), kitB n "tuple" = some (n == "tuple") := by decide +kernel
theorem kit_tup {K : PySem.W.Frag} (d : PyData) : PySem.W.kitOne K (.type (tyName d)) (.type "tuple") = some (dTup d) := by
  refine kit_ty ((kitN_tup _ (tyName_mem d)).trans ?_)
  cases d <;> simp [tyName, dTup]
theorem kitN_list : ∀ n ∈ (["NoneType", "bool", "int", "str", "list", "tuple", "dict"] : List String), kitB n "list" = some (n == "list") := by decide +kernel
theorem kit_list {K : PySem.W.Frag} (d : PyData) : PySem.W.kitOne K (.type (tyName d)) (.type "list") = some (dList d) := by
  refine kit_ty ((kitN_list _ (tyName_mem d)).trans ?_)
  cases d <;> simp [tyName, dList]
/-- data stand where what was tracked stands -/
theorem rd_same {H H' : Hp} {a : Addr} {u : HO} (s : Same H H') (h : Rd H a u) : Rd H' a u := by
  rcases h with h | ⟨o, h⟩
  · exact .inl (s _ _ h)
  · exact .inr ⟨o, s _ _ h⟩
mutual
theorem dp_same {K : PySem.W.Frag} {H H' : Hp} (s : Same H H') : ∀ (d : PyData) (x : V), Dp K H x d → Dp K H' x d
  | .none, _, h => by cases h; exact .non
  | .bool _, _, h => by cases h; exact .bl _
  | .int _, _, h => by cases h; exact .int _
  | .str _, _, h => by cases h; exact .str _
  | .list ds, _, h => by
    cases h with
    | lst h1 h2 => exact .lst (h1.elim (fun z => .inl (rd_same s z)) .inr) (dpAll_same s ds _ h2)
  | .tuple ds, _, h => by
    cases h with
    | tup h1 h2 => exact .tup (h1.elim (fun z => .inl (rd_same s z)) .inr) (dpAll_same s ds _ h2)
  | .dict _, _, h => by cases h
theorem dpAll_same {K : PySem.W.Frag} {H H' : Hp} (s : Same H H') : ∀ (ds : List PyData) (xs : List V), DpAll K H xs ds → DpAll K H' xs ds
  | [], _, h => by cases h; exact .nil
  | d :: ds, _, h => by
    cases h with
    | cons h1 h2 => exact .cons (dp_same s d _ h1) (dpAll_same s ds _ h2)
end
/-- what may be shown -/
structure Shows (d : PyData) : Prop where
  ok : d.showable = true
  dp : d.depth ≤ 64
  sz : d.shown.length ≤ sizeLine
theorem shows_int {i : Int} (h : i.natAbs.log2 < 1920) : Shows (.int i) := ⟨decide_eq_true h, (by simp [PyData.depth]), int_text_fits h⟩
theorem log2_of {i : Int} {k : Nat} (h : i.natAbs < 2 ^ k) (hk : k ≤ 1920) (h0 : 0 < k) : i.natAbs.log2 < 1920 := by
  by_cases hz : i.natAbs = 0
  · rw [hz]; decide
  · exact Nat.lt_of_lt_of_le ((Nat.log2_lt hz).mpr h) hk
theorem eqv_of_ne : True := trivial

/-! ### standard words -/
def smallL : List Nat := [97, 98, 99, 100, 101, 102, 103, 104, 105, 106, 107, 108, 109, 110, 111, 112, 113, 114, 115, 116, 117, 118, 119, 120, 121, 122]
theorem smallS : (("abcdefghijklmnopqrstuvwxyz" : String) : Str) = S smallL := by decide +kernel
theorem small_at {k : Nat} (h : k < 26) : smallL[k]? = some (97 + k) := by
  have : ∀ j : Fin 26, smallL[j.val]? = some (97 + j.val) := by decide
  exact this ⟨k, h⟩
def stdL : Nat → List Nat
  | 0 => []
  | n + 1 => stdL n ++ [97 + n] ++ stdL n
theorem std_len : ∀ n, (stdL n).length + 1 = 2 ^ n
  | 0 => rfl
  | n + 1 => by
    have ih := std_len n
    rw [stdL, List.length_append, List.length_append, Nat.pow_succ]
    show (stdL n).length + 1 + (stdL n).length + 1 = _
    omega
/-- the exponent of 2 -/
def v2 (n : Nat) : Nat := if h : n = 0 ∨ n % 2 = 1 then 0 else v2 (n / 2) + 1
termination_by n
decreasing_by omega
theorem v2_odd {n : Nat} (h : n % 2 = 1) : v2 n = 0 := by
  rw [v2, dif_pos (.inr h)]
theorem v2_even {n : Nat} (h0 : 0 < n) (h : n % 2 = 0) : v2 n = v2 (n / 2) + 1 := by
  rw [v2, dif_neg (by omega)]
theorem v2_pow : ∀ k, v2 (2 ^ k) = k
  | 0 => v2_odd rfl
  | k + 1 => by
    have hp : 0 < 2 ^ (k + 1) := Nat.two_pow_pos _
    have e : 2 ^ (k + 1) / 2 = 2 ^ k := by rw [Nat.pow_succ]; omega
    rw [v2_even hp (by rw [Nat.pow_succ]; omega), e, v2_pow k]
theorem v2_sub : ∀ (k m : Nat), 2 ^ k < m → m < 2 ^ (k + 1) → v2 (m - 2 ^ k) = v2 m
  | 0, m, h1, h2 => by simp at h1 h2; omega
  | k + 1, m, h1, h2 => by
    rw [Nat.pow_succ] at h1 h2 ⊢
    rw [Nat.pow_succ] at h2
    by_cases ho : m % 2 = 1
    · rw [v2_odd ho, v2_odd (by omega)]
    · rw [v2_even (by omega) (show m % 2 = 0 by omega), v2_even (by omega) (by omega)]
      have e : (m - 2 ^ k * 2) / 2 = m / 2 - 2 ^ k := by omega
      rw [e, v2_sub k (m / 2) (by omega) (by rw [Nat.pow_succ]; omega)]
theorem v2_lt {k m : Nat} (h0 : 0 < m) (h : m < 2 ^ k) : v2 m < k := by
  induction k generalizing m with
  | zero => simp at h; omega
  | succ k ih =>
    by_cases ho : m % 2 = 1
    · rw [v2_odd ho]; omega
    · rw [v2_even h0 (by omega)]
      have := ih (m := m / 2) (by omega) (by rw [Nat.pow_succ] at h; omega)
      omega
theorem std_at : ∀ (n i : Nat), i + 1 < 2 ^ n → (stdL n)[i]? = some (97 + v2 (i + 1))
  | 0, i, h => by simp at h
  | n + 1, i, h => by
    have hl := std_len n
    rw [stdL]
    by_cases h1 : i + 1 < 2 ^ n
    · rw [List.getElem?_append_left (by rw [List.length_append]; show i < _ + 1; omega), List.getElem?_append_left (by omega)]
      exact std_at n i h1
    · by_cases h2 : i + 1 = 2 ^ n
      · rw [List.getElem?_append_left (by rw [List.length_append]; show i < _ + 1; omega), List.getElem?_append_right (by omega), show i - (stdL n).length = 0 by omega, h2, v2_pow]
        rfl
      · rw [List.getElem?_append_right (by rw [List.length_append]; show _ + 1 ≤ i; omega), List.length_append]
        show (stdL n)[i - ((stdL n).length + 1)]? = _
        rw [std_at n _ (by rw [Nat.pow_succ] at h; omega), ← v2_sub n (i + 1) (by omega) h]
        congr 3
        omega
theorem std_take {n m : Nat} (h : m + 1 ≤ 2 ^ n) : (stdL n).take m = (List.range m).map fun i => 97 + v2 (i + 1) := by
  refine List.ext_getElem? fun i => ?_
  rw [List.getElem?_take, List.getElem?_map]
  by_cases hi : i < m
  · rw [if_pos hi, std_at n i (by omega), List.getElem?_range hi]
    rfl
  · rw [if_neg hi, List.getElem?_eq_none (by rw [List.length_range]; omega)]
    rfl
/-- is it an integer of the range -/
def inRange (d : PyData) (lo hi : Int) : Bool := match d with
  | .int i => decide (lo ≤ i) && decide (i ≤ hi)
  | _ => false

/-! ### words and assignments as data -/
def strOf : PyData → List Nat | .str z => z.cps.toList | _ => []
theorem str_eta (z : Str) : S z.cps.toList = z := rfl
def patD (d : PyData) : Bool := dStr d && patB (strOf d)
def wordD (d : PyData) : Bool := dStr d && (decide ((strOf d).length ≤ 200) && allIn (strOf d) smallL)
def asgD (l : List Nat) : PyData → Bool
  | .tuple ds => decide (ds.length = (dist l).length) && ds.all fun d => wordD d && decide (strOf d ≠ [])
  | _ => false
def asgW : PyData → List (List Nat) | .tuple ds => ds.map strOf | _ => []
def valL (l : List Nat) (ws : List (List Nat)) : List Nat := (l.map fun c => ws[(dist l).idxOf c]?.getD []).flatten
/-! sizes -/
structure Lite (D k : Nat) (d : PyData) : Prop where
  c : d.canLay0 = true
  dp : d.depth ≤ D
  w : d.weight ≤ k
  s : d.leavesShort 70 = true
  sh : d.showable = true
theorem Lite.mono {D D' k k' : Nat} {d : PyData} (h : Lite D k d) (h1 : D ≤ D') (h2 : k ≤ k') : Lite D' k' d := ⟨h.c, Nat.le_trans h.dp h1, Nat.le_trans h.w h2, h.s, h.sh⟩
def liteB (D k : Nat) (d : PyData) : Bool := d.canLay0 && (decide (d.depth ≤ D) && (decide (d.weight ≤ k) && (d.leavesShort 70 && d.showable)))
theorem lite_of {D k : Nat} {d : PyData} (h : liteB D k d = true) : Lite D k d := by
  unfold liteB at h
  rw [Bool.and_eq_true, Bool.and_eq_true, Bool.and_eq_true, Bool.and_eq_true, decide_eq_true_eq, decide_eq_true_eq] at h
  exact ⟨h.1, h.2.1, h.2.2.1, h.2.2.2.1, h.2.2.2.2⟩
theorem Lite.shows {D k : Nat} {d : PyData} (h : Lite D k d) (h1 : D ≤ 64) (h2 : k ≤ 200000) : Shows d := by
  refine ⟨h.sh, Nat.le_trans h.dp h1, ?_⟩
  have e := PyData.shown_le 70 (by decide) d h.s
  have e2 : (70 + 2) * d.weight ≤ (70 + 2) * 200000 := Nat.mul_le_mul_left _ (Nat.le_trans h.w h2)
  rw [sizeLine_eq]
  omega
theorem Lite.len {D k : Nat} {z : Str} (h : Lite D k (.str z)) : z.cps.toList.length ≤ k := by
  have := h.w
  simp only [PyData.weight] at this
  simpa using this
theorem lite_str {D k : Nat} {l : List Nat} (hl : l.length ≤ k) (h : ∀ c ∈ l, c < 0x110000) : Lite D k (.str (S l)) := by
  refine ⟨?_, Nat.zero_le _, ?_, ?_, rfl⟩
  · simp only [PyData.canLay0, PyData.strOk]
    refine Array.all_eq_true_iff_forall_mem.mpr fun c hc => decide_eq_true (h c ?_)
    simpa [S] using hc
  · simp only [PyData.weight]
    simpa [S] using hl
  · simp only [PyData.leavesShort]
    refine List.all_eq_true.mpr fun c hc => decide_eq_true ?_
    have := h c (by simpa [S] using hc)
    have e : (16 : Nat) ^ 8 = 4294967296 := by decide
    omega
theorem liteAll {D k : Nat} : ∀ {ds : List PyData}, (∀ d ∈ ds, Lite D k d) → PyData.canLayAll0 ds = true ∧ PyData.depthAll ds ≤ D ∧ PyData.weightAll ds ≤ ds.length * (k + 1) ∧ PyData.leavesShortAll 70 ds = true ∧ PyData.showableAll ds = true
  | [], _ => ⟨rfl, Nat.zero_le _, Nat.zero_le _, rfl, rfl⟩
  | d :: r, h => by
    have h1 := h d List.mem_cons_self
    obtain ⟨a, b, c, e, f⟩ := liteAll fun x hx => h x (List.mem_cons_of_mem _ hx)
    refine ⟨?_, ?_, ?_, ?_, ?_⟩
    · simp only [PyData.canLayAll0, h1.c, a, Bool.and_self]
    · simp only [PyData.depthAll]
      exact Nat.max_le.mpr ⟨h1.dp, b⟩
    · simp only [PyData.weightAll, List.length_cons, Nat.succ_mul]
      have := h1.w
      omega
    · simp only [PyData.leavesShortAll, h1.s, e, Bool.and_self]
    · simp only [PyData.showableAll, h1.sh, f, Bool.and_self]
theorem lite_tup {D k m : Nat} {ds : List PyData} (h : ∀ d ∈ ds, Lite D k d) (hm : ds.length * (k + 1) ≤ m) : Lite (D + 1) m (.tuple ds) := by
  obtain ⟨a, b, c, e, f⟩ := liteAll h
  exact ⟨by simpa only [PyData.canLay0] using a, by simp only [PyData.depth]; omega, by simp only [PyData.weight]; omega, by simpa only [PyData.leavesShort] using e, by simpa only [PyData.showable] using f⟩
theorem lite_lst {D k m : Nat} {ds : List PyData} (h : ∀ d ∈ ds, Lite D k d) (hm : ds.length * (k + 1) ≤ m) : Lite (D + 1) m (.list ds) := by
  obtain ⟨a, b, c, e, f⟩ := liteAll h
  exact ⟨by simpa only [PyData.canLay0] using a, by simp only [PyData.depth]; omega, by simp only [PyData.weight]; omega, by simpa only [PyData.leavesShort] using e, by simpa only [PyData.showable] using f⟩
/-! data and heaps -/
/-- the heap without what stands at p -/
def off (p : Addr) (H : Hp) : Hp := fun b => if b = p then none else H b
theorem off_same (p : Addr) (H : Hp) : Same (off p H) H := fun b o h => by
  unfold off at h
  by_cases e : b = p
  · rw [if_pos e] at h; cases h
  · rw [if_neg e] at h; exact h
theorem But.off {p : Addr} {H H' : Hp} (h : But p H H') : Same (off p H) (off p H') := fun b o e => by
  unfold Lw.off at e ⊢
  by_cases q : b = p
  · rw [if_pos q] at e; cases e
  · rw [if_neg q] at e ⊢; exact h b o q e
theorem off_at {p b : Addr} {H : Hp} {o : HO} (n : b ≠ p) (h : H b = some o) : off p H b = some o := by
  unfold off
  rw [if_neg n]
  exact h
theorem dpAll_len {K : PySem.W.Frag} {H : Hp} : ∀ {xs : List V} {ds : List PyData}, DpAll K H xs ds → xs.length = ds.length
  | _, _, .nil => rfl
  | _, _, .cons _ r => by rw [List.length_cons, List.length_cons, dpAll_len r]
theorem dpAll_at {K : PySem.W.Frag} {H : Hp} : ∀ {xs : List V} {ds : List PyData} (_ : DpAll K H xs ds) {i : Nat} {x : V}, xs[i]? = some x → ∃ d, ds[i]? = some d ∧ Dp K H x d
  | _, _, .cons h _, 0, x, e => ⟨_, rfl, by cases e; exact h⟩
  | _, _, .cons _ r, i + 1, x, e => dpAll_at r (i := i) e
theorem dpAll_app {K : PySem.W.Frag} {H : Hp} : ∀ {xs ys : List V} {ds es : List PyData}, DpAll K H xs ds → DpAll K H ys es → DpAll K H (xs ++ ys) (ds ++ es)
  | _, _, _, _, .nil, h => h
  | _, _, _, _, .cons a r, h => .cons a (dpAll_app r h)
def vW (w : List Nat) : V := .str (S w)
def dW (w : List Nat) : PyData := .str (S w)
theorem dpAll_words {K : PySem.W.Frag} {H : Hp} : ∀ ws : List (List Nat), DpAll K H (ws.map vW) (ws.map dW)
  | [] => .nil
  | w :: r => .cons (.str _) (dpAll_words r)
def dataW (ws : List (List Nat)) : PyData := .tuple (ws.map dW)
theorem dp_words {K : PySem.W.Frag} {H : Hp} {a : Addr} {ws : List (List Nat)} (h : SqT K H a (ws.map vW)) : Dp K H (.ref a) (dataW ws) := .tup h (dpAll_words ws)
theorem strOf_dW (w : List Nat) : strOf (dW w) = w := rfl
theorem asgW_dataW (ws : List (List Nat)) : asgW (dataW ws) = ws := by
  show (ws.map dW).map strOf = ws
  rw [List.map_map]
  exact List.map_id' ws
/-- where all are texts -/
theorem dpAll_strs {K : PySem.W.Frag} {H : Hp} : ∀ {xs : List V} {ds : List PyData}, DpAll K H xs ds → (∀ d ∈ ds, dStr d = true) → xs = (ds.map strOf).map vW
  | _, _, .nil, _ => rfl
  | _, _, .cons (d := d) h r, hs => by
    have h1 := hs d List.mem_cons_self
    rw [List.map_cons, List.map_cons, ← dpAll_strs r fun x hx => hs x (List.mem_cons_of_mem _ hx)]
    cases h with
    | str z => rfl
    | non => cases h1
    | bl b => cases h1
    | int i => cases h1
    | lst _ _ => cases h1
    | tup _ _ => cases h1
/-! words -/
structure Wd (w : List Nat) : Prop where
  hi : w.length ≤ 200
  sm : ∀ c ∈ w, c ∈ smallL
theorem small_lt {c : Nat} (h : c ∈ smallL) : c < 0x110000 := by
  have : ∀ c ∈ smallL, c < 0x110000 := by decide
  exact this c h
theorem cap_lt {c : Nat} (h : c ∈ capL) : c < 0x110000 := by
  have : ∀ c ∈ capL, c < 0x110000 := by decide
  exact this c h
theorem wordD_dW {w : List Nat} : wordD (dW w) = true ↔ Wd w := by
  unfold wordD
  rw [Bool.and_eq_true, Bool.and_eq_true, decide_eq_true_eq, allIn_iff]
  exact ⟨fun h => ⟨h.2.1, h.2.2⟩, fun h => ⟨rfl, h.hi, h.sm⟩⟩
theorem asg_good {l : List Nat} {ws : List (List Nat)} (hn : ws.length = (dist l).length) (h : ∀ w ∈ ws, Wd w ∧ w ≠ []) : asgD l (dataW ws) = true := by
  show (decide ((ws.map dW).length = _) && (ws.map dW).all _) = true
  rw [Bool.and_eq_true, decide_eq_true_eq, List.length_map, List.all_eq_true]
  refine ⟨hn, fun d hd => ?_⟩
  obtain ⟨w, hw, rfl⟩ := List.mem_map.mp hd
  rw [Bool.and_eq_true, decide_eq_true_eq]
  exact ⟨wordD_dW.mpr (h w hw).1, (h w hw).2⟩
/-! slices and sums of tuples -/
theorem cutL_whole {α : Type} {xs : List α} {lo hi : Option Int} (h : HT.sIx xs.length 0 lo = 0 ∧ HT.sIx xs.length xs.length hi = xs.length) : cutL xs lo hi = xs := by
  unfold cutL
  rw [h.1, h.2, List.drop_zero, Nat.sub_zero, List.take_length]
theorem slA_use {K : PySem.W.Frag} {a : Addr} {xs : List V} {lo hi : Option Int} {H : Hp} {Q : VK} (h : SqT K H a xs) (q : ∀ b H', Same H H' → SqT K H' b (cutL xs lo hi) → Q (.ref b) H') : rSlA K (.ref a) lo hi H Q :=
  ⟨a, xs, rfl, h, fun w => q a H (Same.refl H) (by rw [cutL_whole w]; exact h), fun _ p hp => q p _ (Same.new hp) (by rw [cutV_L]; exact SqT.of upd_same)⟩
theorem catA_use {K : PySem.W.Frag} {a b : Addr} {xs ys : List V} {H : Hp} {Q : VK} (ha : SqT K H a xs) (hb : SqT K H b ys) (hz : xs.length + ys.length ≤ sizeLine) (q : ∀ c H', Same H H' → SqT K H' c (xs ++ ys) → Q (.ref c) H') :
    rCatA K (.ref a) (.ref b) H Q :=
  ⟨a, b, xs, ys, rfl, rfl, ha, hb, hz, fun e => q b H (Same.refl H) (by rw [e]; exact hb), fun _ e => q a H (Same.refl H) (by rw [e, List.append_nil]; exact ha), fun _ _ p hp => q p _ (Same.new hp) (SqT.of upd_same)⟩
theorem same_tup {K : PySem.W.Frag} {H H' : Hp} {a : Addr} {xs : List V} (s : Same H H') (h : SqT K H a xs) : SqT K H' a xs := h.elim (fun z => .inl (rd_same s z)) .inr
theorem same_lst {K : PySem.W.Frag} {H H' : Hp} {a : Addr} {xs : List V} (s : Same H H') (h : SqL K H a xs) : SqL K H' a xs := h.elim (fun z => .inl (rd_same s z)) .inr
theorem cutL_neg1 {α : Type} (xs : List α) : cutL xs none (some (-1)) = xs.take (xs.length - 1) := by
  have e : HT.sIx xs.length xs.length (some (-1)) = xs.length - 1 := by
    show (if (-1 : Int) < 0 then ((-1 : Int) + (xs.length : Int)).toNat else min (-1 : Int).toNat xs.length) = _
    rw [if_pos (by decide)]
    omega
  unfold cutL
  rw [HT.sIx_none, List.drop_zero, Nat.sub_zero, e]
theorem offT {K : PySem.W.Frag} {H : Hp} {p b : Addr} {xs ys : List V} (h : SqT K H b xs) (hp : H p = some (.lst ys)) : SqT K (off p H) b xs := by
  rcases h with (h | ⟨o, h⟩) | h
  · exact .inl (.inl (off_at (ne_of h hp fun e => by cases e) h))
  · exact .inl (.inr ⟨o, off_at (ne_of h hp fun e => by cases e) h⟩)
  · exact .inr h
theorem Pen.offT {K : PySem.W.Frag} {H : Hp} {p c b : Addr} {n : Nat} {xs : List V} (P : Pen H p c n) (h : SqT K H b xs) : SqT K (off p H) b xs := by
  obtain ⟨ns, i, z, ⟨a1, _⟩, _⟩ := P
  exact Lw.offT h a1
/-- not the data of an assignment of n words -/
def noAsg (n : Nat) : PyData → Bool
  | .tuple ds => !(decide (ds.length = n) && ds.all fun d => wordD d && decide (strOf d ≠ []))
  | _ => true
theorem asg_no {l : List Nat} {d : PyData} (h : noAsg (dist l).length d = true) : asgD l d = false := by
  cases d with
  | tuple ds =>
    have h : (!(decide (ds.length = (dist l).length) && ds.all fun d => wordD d && decide (strOf d ≠ []))) = true := h
    show (decide (ds.length = (dist l).length) && ds.all fun d => wordD d && decide (strOf d ≠ [])) = false
    generalize (decide (ds.length = (dist l).length) && ds.all fun d => wordD d && decide (strOf d ≠ [])) = b at h
    cases b with
    | false => rfl
    | true => cases h
  | _ => rfl
theorem noAsg_len {n : Nat} {ds : List PyData} (h : ds.length ≠ n) : noAsg n (.tuple ds) = true := by
  show (!(decide (ds.length = n) && _)) = true
  rw [decide_eq_false h, Bool.false_and]
  rfl
theorem noAsg_bad {n : Nat} {ds : List PyData} {d : PyData} (hd : d ∈ ds) (h : (wordD d && decide (strOf d ≠ [])) = false) : noAsg n (.tuple ds) = true := by
  show (!(decide (ds.length = n) && ds.all fun d => wordD d && decide (strOf d ≠ []))) = true
  have : (ds.all fun d => wordD d && decide (strOf d ≠ [])) = false := by
    cases q : ds.all fun d => wordD d && decide (strOf d ≠ []) with
    | false => rfl
    | true => rw [List.all_eq_true.mp q d hd] at h; cases h
  rw [this, Bool.and_false]
  rfl
theorem lite_dW {D k : Nat} {w : List Nat} (h : Wd w) (hk : w.length ≤ k) : Lite D k (dW w) := lite_str hk fun c hc => small_lt (h.sm c hc)

/-! ### zip of two walked things, by what drawing from each does -/
structure ZipA (z TI TO i1 i2 : Addr) (f1 f2 : List Addr) : Prop where
  z1 : z ∉ f1
  z2 : z ∉ f2
  t1 : TO ∉ f1
  t2 : TO ∉ f2
  u1 : TI ∉ f1
  u2 : TI ∉ f2
  x1 : i1 ∉ f2
  x2 : i2 ∉ f1
  m1 : i1 ∈ f1
  m2 : i2 ∈ f2
  zTI : z ≠ TI
  zTO : z ≠ TO
  TIO : TI ≠ TO
section
variable {P : Program} {w : World} {A : Around} {E : Value → Shared → Prop} {s : Shared} {z TI TO i1 i2 : Addr} {f1 f2 : List Addr} {n1 n2 k : Nat} {P1 P2 : Nat → Value → Prop} {St1 St2 : Nat → Heap → Prop} {a b : Value}
theorem ne_in {c d : Addr} {f : List Addr} (h : c ∉ f) (m : d ∈ f) : c ≠ d := fun e => h (e ▸ m)
theorem zipD_item {Q : Value → Shared → Prop} (hh : A.handled = none) (D1 : ∀ A1 : Around, A1.handled = none → Draws P w A1 i1 f1 n1 P1 St1) (D2 : ∀ A1 : Around, A1.handled = none → Draws P w A1 i2 f2 n2 P2 St2) (ap : ZipA z TI TO i1 i2 f1 f2)
    (hz : IsZip s.heap z TI TO .none) (hTI : IsPair s.heap TI (.ref i1) (.ref i2)) (hTO : IsPair s.heap TO a b) (s1 : St1 k s.heap) (s2 : St2 k s.heap) (h1 : k < n1) (h2 : k < n2)
    (hQ : ∀ h5 tk x y, P1 k x → P2 k y → IsZip h5 z TI TO (rawInt s.heap.objs.size) → IsPair h5 TO x y → St1 (k + 1) h5 → St2 (k + 1) h5 → IsPair h5 s.heap.objs.size x y →
      (∀ c o, c ≠ z → c ≠ TO → c ≠ i1 → c ≠ i2 → s.heap.get? c = some o → h5.get? c = some o) → Q (.ref s.heap.objs.size) { s with heap := h5, toks := tk }) :
    wpAny (model P w) A (Builtin.«zip.__next__» ⟨[.ref z], []⟩) (fun fin s9 => ∃ v, fin = .done (.ret v) ∧ Q v s9) E s := by
  have z1 := ne_in ap.z1 ap.m1; have z2 := ne_in ap.z2 ap.m2; have t1 := ne_in ap.t1 ap.m1; have t2 := ne_in ap.t2 ap.m2; have x12 : i1 ≠ i2 := ne_in ap.x1 ap.m2
  change wpAny _ _ (field (.ref z) 2 >>= _) _ _ _
  refine wpAny_bind (wpAny_field hz rfl (x := .bool false) rfl (show _ from ?_)); change wpAny _ _ (field (.ref z) 3 >>= _) _ _ _
  refine wpAny_bind (wpAny_field hz rfl (x := .ref TI) rfl (wpAny_bind (wpAny_seqItems hTI rfl (show _ from ?_)))); change wpAny _ _ (Builtin.SmallTypes.ownedTupleIsFree (.ref z) >>= _) _ _ _
  refine wpAny_bind (show _ from ?_); unfold Builtin.SmallTypes.ownedTupleIsFree
  refine wpAny_bind (wpAny_field hz rfl (x := .none) rfl (wpAny_pure (show _ from ?_))); simp only [if_true]
  refine wpAny_bind (wpAny_rule (wpAny_bind (wpAny_field hz rfl (x := .ref TO) rfl (wpAny_bind (wpAny_setField_rec hz (by simp) fun ha za sa => show _ from ?_)))))
  replace za : IsZip ha z TI TO .ellipsis := za
  refine wpAny_bind (show _ from ?_); simp only [List.zipIdx_cons, List.zipIdx_nil, List.forIn_cons, List.forIn_nil]
  refine wpAny_bind (wpAny_bind (wpAny_onRaise (show _ from ?_))); change wpAny _ _ (Builtin.SmallTypes.nextOf (.ref i1) >>= _) _ _ _
  have s1a : St1 k ha := (D1 A hh).frame k _ _ s1 fun c hc o e => (sa.2 c fun q => ap.z1 (q ▸ hc)).trans e
  have s2a : St2 k ha := (D2 A hh).frame k _ _ s2 fun c hc o e => (sa.2 c fun q => ap.z2 (q ▸ hc)).trans e
  refine wpAny_bind ((D1 _ (by first | exact hh | simp [hh])).item k { s with heap := ha } _ _ h1 s1a fun x hb tb px s1b sb => wpAny_pure (show _ from ?_))
  replace sb : Heap.SameBut i1 ha hb := sb
  have s2b : St2 k hb := (D2 A hh).frame k _ _ s2a fun c hc o e => (sb.2 c fun q => ap.x1 (q ▸ hc)).trans e
  have TOb : IsPair hb TO a b := (sb.2 TO t1).trans ((sa.2 TO ap.zTO.symm).trans hTO)
  refine wpAny_bind (wpAny_seqItems TOb rfl (wpAny_bind (wpAny_updateSeq_pair TOb fun hc TOc sc => show _ from ?_)))
  replace TOc : IsPair hc TO x b := TOc
  have s1c : St1 (k + 1) hc := (D1 A hh).frame _ _ _ s1b fun c hm o e => (sc.2 c fun q => ap.t1 (q ▸ hm)).trans e
  have s2c : St2 k hc := (D2 A hh).frame _ _ _ s2b fun c hm o e => (sc.2 c fun q => ap.t2 (q ▸ hm)).trans e
  refine wpAny_bind (wpAny_letGo (wpAny_pure (show _ from ?_)))
  refine wpAny_bind (wpAny_bind (wpAny_onRaise (show _ from ?_))); change wpAny _ _ (Builtin.SmallTypes.nextOf (.ref i2) >>= _) _ _ _
  refine wpAny_bind ((D2 _ (by first | exact hh | simp [hh])).item k { s with heap := hc, toks := tb } _ _ h2 s2c fun y hd td py s2d sd => wpAny_pure (show _ from ?_))
  replace sd : Heap.SameBut i2 hc hd := sd
  have TOd : IsPair hd TO x b := (sd.2 TO t2).trans TOc
  refine wpAny_bind (wpAny_seqItems TOd rfl (wpAny_bind (wpAny_updateSeq_pair TOd fun he TOe se => show _ from ?_)))
  replace TOe : IsPair he TO x y := TOe
  refine wpAny_bind (wpAny_letGo (wpAny_pure (wpAny_pure (show _ from ?_))))
  refine wpAny_bind (wpAny_seqItems TOe rfl (wpAny_bind (wpAny_newTuple (show _ from ?_))))
  have sz : he.objs.size = s.heap.objs.size := by rw [se.1, sd.1, sc.1, sb.1, sa.1]
  have keep : ∀ c o, c ≠ z → c ≠ TO → c ≠ i1 → c ≠ i2 → s.heap.get? c = some o → he.get? c = some o := fun c o c1 c2 c3 c4 e => (se.2 c c2).trans ((sd.2 c c4).trans ((sc.2 c c2).trans ((sb.2 c c3).trans ((sa.2 c c1).trans e))))
  have ze : IsZip he z TI TO .ellipsis := (se.2 z ap.zTO).trans ((sd.2 z z2).trans ((sc.2 z ap.zTO).trans ((sb.2 z z1).trans za)))
  have s1e : St1 (k + 1) he := (D1 A hh).frame _ _ _ ((D1 A hh).frame _ _ _ s1c fun c hm o e => (sd.2 c fun q => ap.x2 (q ▸ hm)).trans e) fun c hm o e => (se.2 c fun q => ap.t1 (q ▸ hm)).trans e
  have s2e : St2 (k + 1) he := (D2 A hh).frame _ _ _ s2d fun c hm o e => (se.2 c fun q => ap.t2 (q ▸ hm)).trans e
  have zlt : z < he.objs.size := Heap.lt_size ze
  change wpAny _ _ (Builtin.SmallTypes.ownedTupleHandOut (.ref z) (.ref he.objs.size) >>= _) _ _ _
  refine wpAny_bind (show _ from ?_); unfold Builtin.SmallTypes.ownedTupleHandOut
  have zf : IsZip (he.push { cls := .type "tuple", data := .seq #[x, y] }) z TI TO .ellipsis := Heap.get?_push_of_some _ ze
  refine wpAny_bind (wpAny_setField_rec zf (by simp) fun hg zg sg => show _ from ?_)
  replace zg : IsZip hg z TI TO (rawInt he.objs.size) := zg
  refine wpAny_setField_rec zg (by simp) fun hi zi si => show _ from ?_
  replace zi : IsZip hi z TI TO (rawInt he.objs.size) := zi
  have up : ∀ c o, c ≠ z → he.get? c = some o → hi.get? c = some o := fun c o c1 e => (si.2 c c1).trans ((sg.2 c c1).trans (Heap.get?_push_of_some _ e))
  have Ti : IsPair hi he.objs.size x y := (si.2 _ (Nat.ne_of_gt zlt)).trans ((sg.2 _ (Nat.ne_of_gt zlt)).trans (Heap.get?_push_size _ rfl))
  rw [sz] at zi Ti
  refine wpAny_pure ⟨_, rfl, show Q (.ref he.objs.size) _ from ?_⟩
  rw [sz]
  exact hQ hi _ x y px py zi (up _ _ ap.zTO.symm TOe) ((D1 A hh).frame _ _ _ s1e fun c hm o e => up c o (fun q => ap.z1 (q ▸ hm)) e) ((D2 A hh).frame _ _ _ s2e fun c hm o e => up c o (fun q => ap.z2 (q ▸ hm)) e) Ti fun c o c1 c2 c3 c4 e => up c o c1 (keep c o c1 c2 c3 c4 e)
theorem zipD_end {Q : Fin → Shared → Prop} (hh : A.handled = none) (D1 : ∀ A1 : Around, A1.handled = none → Draws P w A1 i1 f1 n1 P1 St1) (D2 : ∀ A1 : Around, A1.handled = none → Draws P w A1 i2 f2 n2 P2 St2) (ap : ZipA z TI TO i1 i2 f1 f2)
    (hz : IsZip s.heap z TI TO .none) (hTI : IsPair s.heap TI (.ref i1) (.ref i2)) (hTO : IsPair s.heap TO a b) (s1 : St1 k s.heap) (s2 : St2 k s.heap) (h1 : k = n1 ∨ (k < n1 ∧ k = n2))
    (hE : ∀ h5 tk e, (∀ c o, c ≠ z → c ≠ TO → c ≠ i1 → c ≠ i2 → s.heap.get? c = some o → h5.get? c = some o) → (∃ o, h5.get? e = some o ∧ o.cls = .type "StopIteration") → E (.ref e) { s with heap := h5, toks := tk }) :
    wpAny (model P w) A (Builtin.«zip.__next__» ⟨[.ref z], []⟩) Q E s := by
  have z1 := ne_in ap.z1 ap.m1; have z2 := ne_in ap.z2 ap.m2; have t1 := ne_in ap.t1 ap.m1; have t2 := ne_in ap.t2 ap.m2; have x12 : i1 ≠ i2 := ne_in ap.x1 ap.m2
  change wpAny _ _ (field (.ref z) 2 >>= _) _ _ _
  refine wpAny_bind (wpAny_field hz rfl (x := .bool false) rfl (show _ from ?_)); change wpAny _ _ (field (.ref z) 3 >>= _) _ _ _
  refine wpAny_bind (wpAny_field hz rfl (x := .ref TI) rfl (wpAny_bind (wpAny_seqItems hTI rfl (show _ from ?_)))); change wpAny _ _ (Builtin.SmallTypes.ownedTupleIsFree (.ref z) >>= _) _ _ _
  refine wpAny_bind (show _ from ?_); unfold Builtin.SmallTypes.ownedTupleIsFree
  refine wpAny_bind (wpAny_field hz rfl (x := .none) rfl (wpAny_pure (show _ from ?_))); simp only [if_true]
  refine wpAny_bind (wpAny_rule (wpAny_bind (wpAny_field hz rfl (x := .ref TO) rfl (wpAny_bind (wpAny_setField_rec hz (by simp) fun ha za sa => show _ from ?_)))))
  replace za : IsZip ha z TI TO .ellipsis := za
  refine wpAny_bind (show _ from ?_); simp only [List.zipIdx_cons, List.zipIdx_nil, List.forIn_cons, List.forIn_nil]
  refine wpAny_bind (wpAny_bind (wpAny_onRaise (show _ from ?_))); change wpAny _ _ (Builtin.SmallTypes.nextOf (.ref i1) >>= _) _ _ _
  have s1a : St1 k ha := (D1 A hh).frame k _ _ s1 fun c hc o e => (sa.2 c fun q => ap.z1 (q ▸ hc)).trans e
  have s2a : St2 k ha := (D2 A hh).frame k _ _ s2 fun c hc o e => (sa.2 c fun q => ap.z2 (q ▸ hc)).trans e
  rcases h1 with rfl | ⟨h1, rfl⟩
  · refine wpAny_bind ((D1 _ (by first | exact hh | simp [hh])).done { s with heap := ha } _ _ s1a fun hb e sb he => show _ from ?_)
    replace sb : Heap.ExtBut i1 ha hb := sb
    obtain ⟨oe, hoe, hce⟩ := he
    have zb : IsZip hb z TI TO .ellipsis := sb _ _ z1 za
    have nez : e ≠ z := fun q => by subst q; rw [zb] at hoe; cases hoe; simp at hce
    exact wpAny_setField_rec zb (by simp) fun hc _ sc => hE hc _ e (fun c o c1 _ c3 _ q => (sc.2 c c1).trans (sb _ _ c3 ((sa.2 c c1).trans q))) ⟨oe, (sc.2 e nez).trans hoe, hce⟩
  · refine wpAny_bind ((D1 _ (by first | exact hh | simp [hh])).item k { s with heap := ha } _ _ h1 s1a fun x hb tb px s1b sb => wpAny_pure (show _ from ?_))
    replace sb : Heap.SameBut i1 ha hb := sb
    have s2b : St2 k hb := (D2 A hh).frame k _ _ s2a fun c hc o e => (sb.2 c fun q => ap.x1 (q ▸ hc)).trans e
    have TOb : IsPair hb TO a b := (sb.2 TO t1).trans ((sa.2 TO ap.zTO.symm).trans hTO)
    refine wpAny_bind (wpAny_seqItems TOb rfl (wpAny_bind (wpAny_updateSeq_pair TOb fun hc TOc sc => show _ from ?_)))
    have s2c : St2 k hc := (D2 A hh).frame _ _ _ s2b fun c hm o e => (sc.2 c fun q => ap.t2 (q ▸ hm)).trans e
    refine wpAny_bind (wpAny_letGo (wpAny_pure (show _ from ?_)))
    refine wpAny_bind (wpAny_bind (wpAny_onRaise (show _ from ?_))); change wpAny _ _ (Builtin.SmallTypes.nextOf (.ref i2) >>= _) _ _ _
    refine wpAny_bind ((D2 _ (by first | exact hh | simp [hh])).done { s with heap := hc, toks := tb } _ _ s2c fun hd e sd he => show _ from ?_)
    replace sd : Heap.ExtBut i2 hc hd := sd
    obtain ⟨oe, hoe, hce⟩ := he
    have zd : IsZip hd z TI TO .ellipsis := sd _ _ z2 ((sc.2 z ap.zTO).trans ((sb.2 z z1).trans za))
    have nez : e ≠ z := fun q => by subst q; rw [zd] at hoe; cases hoe; simp at hce
    exact wpAny_setField_rec zd (by simp) fun hf _ sf => hE hf _ e (fun c o c1 c2 c3 c4 q => (sf.2 c c1).trans (sd _ _ c4 ((sc.2 c c2).trans ((sb.2 c c3).trans ((sa.2 c c1).trans q))))) ⟨oe, (sf.2 e nez).trans hoe, hce⟩
theorem pyNext_zipD_item {Q : Option Value → Shared → Prop} (hh : A.handled = none) (D1 : ∀ A1 : Around, A1.handled = none → Draws P w A1 i1 f1 n1 P1 St1) (D2 : ∀ A1 : Around, A1.handled = none → Draws P w A1 i2 f2 n2 P2 St2) (ap : ZipA z TI TO i1 i2 f1 f2)
    (hz : IsZip s.heap z TI TO .none) (hTI : IsPair s.heap TI (.ref i1) (.ref i2)) (hTO : IsPair s.heap TO a b) (s1 : St1 k s.heap) (s2 : St2 k s.heap) (h1 : k < n1) (h2 : k < n2)
    (hQ : ∀ h5 tk x y, P1 k x → P2 k y → IsZip h5 z TI TO (rawInt s.heap.objs.size) → IsPair h5 TO x y → St1 (k + 1) h5 → St2 (k + 1) h5 → IsPair h5 s.heap.objs.size x y →
      (∀ c o, c ≠ z → c ≠ TO → c ≠ i1 → c ≠ i2 → s.heap.get? c = some o → h5.get? c = some o) → Q (some (.ref s.heap.objs.size)) { s with heap := h5, toks := tk }) : wpAny (model P w) A (pyNext (.ref z)) Q E s := by
  have hT : s.TypeIs (.ref z) "zip" := ⟨_, hz, rfl⟩
  unfold pyNext
  exact wpAny_bind (wpAny_attempt (wpAny_callSpecial?_slot (name := Str.ofString "__next__") hT F.slot_zip_next (wpAny_call_entry F.slot_zip_next hT F.entry_zip_next
    (zipD_item (by first | exact hh | simp [hh]) D1 D2 ap hz hTI hTO s1 s2 h1 h2 fun h5 tk x y q1 q2 q3 q4 q5 q6 q7 q8 => wpAny_pure (hQ h5 tk x y q1 q2 q3 q4 q5 q6 q7 q8)) (F.args_zip_next_1 _))))
theorem pyNext_zipD_end {Q : Option Value → Shared → Prop} (hh : A.handled = none) (D1 : ∀ A1 : Around, A1.handled = none → Draws P w A1 i1 f1 n1 P1 St1) (D2 : ∀ A1 : Around, A1.handled = none → Draws P w A1 i2 f2 n2 P2 St2) (ap : ZipA z TI TO i1 i2 f1 f2)
    (hz : IsZip s.heap z TI TO .none) (hTI : IsPair s.heap TI (.ref i1) (.ref i2)) (hTO : IsPair s.heap TO a b) (s1 : St1 k s.heap) (s2 : St2 k s.heap) (h1 : k = n1 ∨ (k < n1 ∧ k = n2))
    (hQ : ∀ h5 tk, (∀ c o, c ≠ z → c ≠ TO → c ≠ i1 → c ≠ i2 → s.heap.get? c = some o → h5.get? c = some o) → Q none { s with heap := h5, toks := tk }) : wpAny (model P w) A (pyNext (.ref z)) Q E s := by
  have hT : s.TypeIs (.ref z) "zip" := ⟨_, hz, rfl⟩
  unfold pyNext
  refine wpAny_bind (wpAny_attempt (wpAny_callSpecial?_slot (name := Str.ofString "__next__") hT F.slot_zip_next (wpAny_call_entry F.slot_zip_next hT F.entry_zip_next
    (zipD_end (by first | exact hh | simp [hh]) D1 D2 ap hz hTI hTO s1 s2 h1 fun h5 tk e keep he => show _ from ?_) (F.args_zip_next_1 _))))
  obtain ⟨o, ho, hc⟩ := he
  exact wpAny_bind (wpAny_isInstance (T := "StopIteration") (b := true) ⟨o, ho, hc⟩ isSubtype_stop (wpAny_pure (hQ h5 tk keep)))
end

/-! ### for a, b in zip(text, text) -/
section
variable {P : Program} {w : World} {A : Around} {E : Value → Shared → Prop} {s : Shared}
abbrev strItO (x : Str) (t : Tok) : Obj := { cls := .type (strIterType x), data := .fields #[.str x t, .int 0 0] }
abbrev zh1 (h : Heap) (x : Str) (t : Tok) : Heap := h.push (strItO x t)
abbrev zh2 (h : Heap) (x y : Str) (t u : Tok) : Heap := (zh1 h x t).push (strItO y u)
abbrev zh3 (h : Heap) (x y : Str) (t u : Tok) : Heap := (zh2 h x y t u).push { cls := .type "tuple", data := .seq #[.ref h.objs.size, .ref (zh1 h x t).objs.size] }
abbrev zh4 (h : Heap) (x y : Str) (t u : Tok) : Heap := (zh3 h x y t u).push { cls := .type "tuple", data := .seq #[.none, .none] }
abbrev zh5 (h : Heap) (x y : Str) (t u : Tok) : Heap := (zh4 h x y t u).push { cls := .type "zip", data := .fields #[.none, .bool false, .bool false, .ref (zh2 h x y t u).objs.size, .ref (zh3 h x y t u).objs.size] }
theorem drawsText (x : Str) (t : Tok) (it : Addr) : ∀ A1 : Around, A1.handled = none → Draws P w A1 it [it] x.cps.size (fun i v => ∃ c u, x.cps[i]? = some c ∧ v = .str ⟨#[c]⟩ u) (fun i h => h.IsStrIter it (strIterType x) x t i) := fun A1 hh => by
  unfold strIterType
  split
  · exact Draws.strAscii hh it x t
  · exact Draws.strWide hh it x t
set_option maxHeartbeats 4000000 in
theorem meets_zipSS (x y : Str) (t u : Tok) : Meets (Builtin.«zip.__new__» ⟨[.type "zip", .str x t, .str y u], []⟩) (fun _ R s => R (.ok (.ret (.ref (zh4 s.heap x y t u).objs.size))) { s with heap := zh5 s.heap x y t u }) :=
  .of_wp fun prog w A R s h => by
    obtain ⟨hp, g, d, tk, os⟩ := s
    have sb := sub_zip
    wp_walk using wpAny_pyIter_strU
    exact ⟨_, rfl, h⟩
theorem call_zipSS {x y : Str} {t u : Tok} {Q : Value → Shared → Prop}
    (h : ∀ h1, IsZip h1 (s.heap.objs.size + 4) (s.heap.objs.size + 2) (s.heap.objs.size + 3) .none → IsPair h1 (s.heap.objs.size + 2) (.ref s.heap.objs.size) (.ref (s.heap.objs.size + 1)) → IsPair h1 (s.heap.objs.size + 3) .none .none →
      h1.IsStrIter s.heap.objs.size (strIterType x) x t 0 → h1.IsStrIter (s.heap.objs.size + 1) (strIterType y) y u 0 → (∀ c o, s.heap.get? c = some o → h1.get? c = some o) → Q (.ref (s.heap.objs.size + 4)) { s with heap := h1 }) :
    wpAny (model P w) A (call (.type "zip") [.str x t, .str y u]) Q E s := by
  refine callType_new F.called_zip (by decide) (F.typeCall_zip_2 _ _) (F.newCall_zip_2 _ _) (fun obj => F.args_object_init_3 obj _ _) F.entry_zip_new (meets_zipSS x y t u) (show _ ∧ _ from ?_)
  have n1 : (zh1 s.heap x t).objs.size = s.heap.objs.size + 1 := Heap.size_push ..
  have n2 : (zh2 s.heap x y t u).objs.size = s.heap.objs.size + 2 := by rw [Heap.size_push, n1]
  have n3 : (zh3 s.heap x y t u).objs.size = s.heap.objs.size + 3 := by rw [Heap.size_push, n2]
  have n4 : (zh4 s.heap x y t u).objs.size = s.heap.objs.size + 4 := by rw [Heap.size_push, n3]
  have e5 : (zh5 s.heap x y t u).get? (zh4 s.heap x y t u).objs.size = some _ := Heap.get?_push_size _ rfl
  have e4 : (zh5 s.heap x y t u).get? (zh3 s.heap x y t u).objs.size = some _ := Heap.get?_push_of_some _ (Heap.get?_push_size _ rfl)
  have e3 : (zh5 s.heap x y t u).get? (zh2 s.heap x y t u).objs.size = some _ := Heap.get?_push_of_some _ (Heap.get?_push_of_some _ (Heap.get?_push_size _ rfl))
  have e2 : (zh5 s.heap x y t u).get? (zh1 s.heap x t).objs.size = some (strItO y u) := Heap.get?_push_of_some _ (Heap.get?_push_of_some _ (Heap.get?_push_of_some _ (Heap.get?_push_size _ rfl)))
  have e1 : (zh5 s.heap x y t u).get? s.heap.objs.size = some (strItO x t) := Heap.get?_push_of_some _ (Heap.get?_push_of_some _ (Heap.get?_push_of_some _ (Heap.get?_push_of_some _ (Heap.get?_push_size _ rfl))))
  rw [n2, n3, n4] at e5; rw [n1, n2] at e3; rw [n3] at e4; rw [n1] at e2; rw [n4]
  exact ⟨⟨_, e5, rfl⟩, h _ e5 e3 e4 ⟨_, e1, rfl, rfl⟩ ⟨_, e2, rfl, rfl⟩ fun c o q => Heap.get?_push_of_some _ (Heap.get?_push_of_some _ (Heap.get?_push_of_some _ (Heap.get?_push_of_some _ (Heap.get?_push_of_some _ q))))⟩
end
/-- the two texts in step -/
def ItzS (l m : List Nat) : It :=
  ⟨fun i _ => i < min l.length m.length, fun i H v H1 => ∃ T c d, v = .ref T ∧ H T = none ∧ H1 = upd H T (.tup [.str (S [c]), .str (S [d])]) ∧ l[i]? = some c ∧ m[i]? = some d, fun i _ => i = min l.length m.length⟩
theorem walk_zipS {l m : List Nat} {n : Nat} (hn : n = min l.length m.length) : Walk (ItzS l m) n (fun _ => True) (YPair (fun i => l[i]?.map fun c => .str (S [c])) (fun i => m[i]?.map fun c => .str (S [c]))) := by
  subst hn
  refine ⟨fun i _ hi _ => hi, fun _ _ => rfl, fun i H v H1 _ _ y => ?_⟩
  obtain ⟨T, c, d, h1, h2, h3, h4, h5⟩ := y
  exact ⟨T, _, _, h1, h2, h3, by show l[i]?.map _ = _; rw [h4]; rfl, by show m[i]?.map _ = _; rw [h5]; rfl⟩
theorem apart5 (n : Nat) : ZipA (n + 4) (n + 2) (n + 3) n (n + 1) [n] [n + 1] :=
  have key : ∀ a b : Nat, a ≠ b → a ∉ ([b] : List Addr) := fun a b h m => h (List.mem_singleton.mp m)
  have nn : ∀ a b : Nat, a ≠ b → (show Addr from a) ≠ b := fun a b h => h
  ⟨key _ _ (by omega), key _ _ (by omega), key _ _ (by omega), key _ _ (by omega), key _ _ (by omega), key _ _ (by omega), key _ _ (by omega), key _ _ (by omega), List.mem_cons_self, List.mem_cons_self, nn _ _ (by omega), nn _ _ (by omega), nn _ _ (by omega)⟩
theorem turn_zipS {P : Program} {w : World} {K : PySem.W.Frag} {elts : List Expr} {kk : Nat} {tpos : Pos} {l m : List Nat} {t u : Tok} {z TI TO i1 i2 : Addr} (D : ZipA z TI TO i1 i2 [i1] [i2]) :
    Turn P w K (.Tuple elts kk tpos) (ItzS l m) [z, TI, TO, i1, i2] z (fun i h => IsZip h z TI TO .none ∧ IsPair h TI (.ref i1) (.ref i2) ∧ (∃ x y, IsPair h TO x y) ∧ h.IsStrIter i1 (strIterType (S l)) (S l) t i ∧ h.IsStrIter i2 (strIterType (S m)) (S m) u i) where
  mem := by simp
  obj := fun i h st c hc => by
    obtain ⟨hz, hTI, ⟨x, y, hTO⟩, ⟨o1, e1, _, d1⟩, ⟨o2, e2, _, d2⟩⟩ := st
    simp only [List.mem_cons, List.not_mem_nil, or_false] at hc
    rcases hc with q | q | q | q | q <;> subst q
    · exact ⟨_, hz, fun v q => nomatch q⟩
    · exact ⟨_, hTI, fun v q => nomatch q⟩
    · exact ⟨_, hTO, fun v q => nomatch q⟩
    · exact ⟨o1, e1, fun v q => by rw [d1] at q; cases q⟩
    · exact ⟨o2, e2, fun v q => by rw [d2] at q; cases q⟩
  keep := fun i h h1 st k => by
    obtain ⟨hz, hTI, ⟨x, y, hTO⟩, ⟨o1, e1, r1⟩, ⟨o2, e2, r2⟩⟩ := st
    exact ⟨k z (by simp) _ hz, k TI (by simp) _ hTI, ⟨x, y, k TO (by simp) _ hTO⟩, ⟨o1, k i1 (by simp) _ e1, r1⟩, ⟨o2, k i2 (by simp) _ e2, r2⟩⟩
  item := by
    intro X hP hw hK hc i pins s σ H E I hf st hg
    subst hP hw hK
    obtain ⟨hz, hTI, ⟨x0, y0, hTO⟩, h1, h2⟩ := st
    have hg : i < min l.length m.length := hg
    have g1 : i < (S l).cps.size := by simp [S]; omega
    have g2 : i < (S m).cps.size := by simp [S]; omega
    have zl : z < s.heap.objs.size := Heap.lt_size hz
    refine pyNext_zipD_item (I.ok.hd hc) (drawsText (S l) t i1) (drawsText (S m) u i2) D hz hTI hTO h1 h2 g1 g2 fun h5 tk x y q1 q2 z5 TO5 a1 a2 hT keep => ?_
    obtain ⟨c, u1, hc1, rfl⟩ := q1
    obtain ⟨d, u2, hd1, rfl⟩ := q2
    refine ⟨_, rfl, wpAny_letOwnedTupleGo_zip (s := { s with heap := h5, toks := tk }) z5 fun h6 z6 sb => ?_⟩
    have hT2 : h6.get? s.heap.objs.size = some { cls := .type "tuple", data := .seq #[.str (S [c]) u1, .str (S [d]) u2] } := (sb.2 _ (Nat.ne_of_gt zl)).trans hT
    have new : ObjOk X.prog X.w (upd H s.heap.objs.size (.tup [.str (S [c]), .str (S [d])])) h6 s.heap.objs.size (.tup [.str (S [c]), .str (S [d])]) :=
      ⟨by show 2 ≤ sizeLine; decide, [.str (S [c]) u1, .str (S [d]) u2], .cons ⟨u1, rfl⟩ (.cons ⟨u2, rfl⟩ .nil), ⟨_, hT2, rfl, _, rfl⟩⟩
    have I1 : Inv X pins σ (upd H s.heap.objs.size (.tup [.str (S [c]), .str (S [d])])) { s with heap := h6, toks := tk } :=
      I.turnedNew (t' := tk) (ch := [z, TI, TO, i1, i2]) (fun c o hb q => (sb.2 c (fun e => hb (by simp [e]))).trans (keep c o (fun e => hb (by simp [e])) (fun e => hb (by simp [e])) (fun e => hb (by simp [e])) (fun e => hb (by simp [e])) q)) hf (Nat.le_refl _) new
    have nz1 : i1 ≠ z := (ne_in D.z1 D.m1).symm
    have nz2 : i2 ≠ z := (ne_in D.z2 D.m2).symm
    refine ⟨.ref s.heap.objs.size, _, I1, rfl, ⟨_, c, d, rfl, I.hok.fresh (Nat.le_refl _), rfl, by rw [← hc1]; simp [S], by rw [← hd1]; simp [S]⟩, ⟨z6, ?_, ⟨.str (S [c]) u1, .str (S [d]) u2, ?_⟩, ?_, ?_⟩, fun c hm => ?_⟩
    · exact (sb.2 _ D.zTI.symm).trans (keep _ _ D.zTI.symm D.TIO (ne_in D.u1 D.m1) (ne_in D.u2 D.m2) hTI)
    · exact (sb.2 _ D.zTO.symm).trans TO5
    · obtain ⟨o, e, r⟩ := a1; exact ⟨o, (sb.2 _ nz1).trans e, r⟩
    · obtain ⟨o, e, r⟩ := a2; exact ⟨o, (sb.2 _ nz2).trans e, r⟩
    · have lt : c < s.heap.objs.size := by
        simp only [List.mem_cons, List.not_mem_nil, or_false] at hm
        rcases hm with q | q | q | q | q <;> subst q
        · exact zl
        · exact Heap.lt_size hTI
        · exact Heap.lt_size hTO
        · obtain ⟨_, e, _⟩ := h1; exact Heap.lt_size e
        · obtain ⟨_, e, _⟩ := h2; exact Heap.lt_size e
      rw [upd_ne (Nat.ne_of_lt lt)]
      exact (hf c hm).1
  done := by
    intro X hP hw hK hc i pins s σ H E I hf st hg
    subst hP hw hK
    obtain ⟨hz, hTI, ⟨x0, y0, hTO⟩, h1, h2⟩ := st
    have hg : i = min l.length m.length := hg
    have z1 : (S l).cps.size = l.length := by simp [S]
    have z2 : (S m).cps.size = m.length := by simp [S]
    exact pyNext_zipD_end (I.ok.hd hc) (drawsText (S l) t i1) (drawsText (S m) u i2) D hz hTI hTO h1 h2 (by rw [z1, z2]; omega) fun h5 tk keep => ⟨rfl, I.turnedL (t' := tk) (ch := [z, TI, TO, i1, i2]) (fun c o hb q =>
      keep c o (fun e => hb (by simp [e])) (fun e => hb (by simp [e])) (fun e => hb (by simp [e])) (fun e => hb (by simp [e])) q) hf⟩
  self := fun A i s Q E st h => wpAny_pyIter_zip st.1 h
def iZipS (ta : TA) : TI := fun σ H R => ta σ H fun vs H1 => ∃ l m : List Nat, vs = [.str (S l), .str (S m)] ∧ R (ItzS l m) H1
theorem pi_zipS {X : Cx} {e e2 : Expr} {ta : TA} {p pos tpos : Pos} {elts : List Expr} {kk : Nat} (hg : Gl X "zip") (hm : X.mg "zip" = none) (ha : PA X [e, e2] ta)
    (hs : starEach [e, e2] X.env = (false, eval e X.env) :: starEach [e2] X.env := by rfl) (hpl : (backTo pos (starEach [e2] X.env)).any (·.1) = false := by rfl) :
    PI X (.Tuple elts kk tpos) (.Call (.Name "zip" p) [e, e2] [] pos) (iZipS ta) := by
  refine ⟨fun pins s σ H R I h => Call_ (ld_blt I hg hm PyProof.Rows.boot_zip (PyProof.Rows.callWith_type1 (thn (ha.run pos pins s σ H _ I h) fun us s1 ⟨vs, H1, I1, r1, q1⟩ => ?_) hs hpl))⟩
  obtain ⟨l, m, rfl, q⟩ := q1
  cases r1 with
  | cons r rr =>
    cases rr with
    | cons r2 rr =>
      cases rr
      obtain ⟨t, rfl⟩ := r
      obtain ⟨u, rfl⟩ := r2
      refine call_zipSS fun h1 hz hTI hTO a1 a2 keep => wpAny_pyIter_zip hz ?_
      refine ⟨s1.heap.objs.size + 4, [s1.heap.objs.size + 4, s1.heap.objs.size + 2, s1.heap.objs.size + 3, s1.heap.objs.size, s1.heap.objs.size + 1], _, _, H1, rfl, I1.kept (t' := s1.toks) keep, turn_zipS (apart5 s1.heap.objs.size), ⟨hz, hTI, ⟨_, _, hTO⟩, a1, a2⟩, fun c hc => ?_, q⟩
      have le : s1.heap.objs.size ≤ c := by
        simp only [List.mem_cons, List.not_mem_nil, or_false] at hc
        rcases hc with q | q | q | q | q <;> rw [q] <;> first | exact Nat.le_refl _ | exact Nat.le_add_right _ _
      exact I1.fpOk le (I1.hok.fresh le)

/-! ### dict(zip(text, list)) -/
section
variable {P : Program} {w : World} {A : Around} {E : Value → Shared → Prop} {s : Shared} {z TI TO T i1 i2 : Addr} {f1 f2 : List Addr} {n1 n2 k : Nat} {P1 P2 : Nat → Value → Prop} {St1 St2 : Nat → Heap → Prop} {fl : Bool} {oT : Obj}
theorem zipD_item_held {Q : Value → Shared → Prop} (hh : A.handled = none) (D1 : ∀ A1 : Around, A1.handled = none → Draws P w A1 i1 f1 n1 P1 St1) (D2 : ∀ A1 : Around, A1.handled = none → Draws P w A1 i2 f2 n2 P2 St2) (ap : ZipA z TI TO i1 i2 f1 f2)
    (hz : IsZipHeld s.heap z TI TO T fl) (hT : s.heap.get? T = some oT) (hTI : IsPair s.heap TI (.ref i1) (.ref i2)) (s1 : St1 k s.heap) (s2 : St2 k s.heap) (h1 : k < n1) (h2 : k < n2)
    (hQ : ∀ h5 tk x y, P1 k x → P2 k y → IsZipHeld h5 z TI TO T true → St1 (k + 1) h5 → St2 (k + 1) h5 → IsPair h5 s.heap.objs.size x y →
      (∀ c o, c ≠ z → c ≠ i1 → c ≠ i2 → s.heap.get? c = some o → h5.get? c = some o) → Q (.ref s.heap.objs.size) { s with heap := h5, toks := tk }) :
    wpAny (model P w) A (Builtin.«zip.__next__» ⟨[.ref z], []⟩) (fun fin s9 => ∃ v, fin = .done (.ret v) ∧ Q v s9) E s := by
  have z1 := ne_in ap.z1 ap.m1; have z2 := ne_in ap.z2 ap.m2
  change wpAny _ _ (field (.ref z) 2 >>= _) _ _ _
  refine wpAny_bind (wpAny_field hz rfl (x := .bool false) rfl (show _ from ?_)); change wpAny _ _ (field (.ref z) 3 >>= _) _ _ _
  refine wpAny_bind (wpAny_field hz rfl (x := .ref TI) rfl (wpAny_bind (wpAny_seqItems hTI rfl (show _ from ?_)))); change wpAny _ _ (Builtin.SmallTypes.ownedTupleIsFree (.ref z) >>= _) _ _ _
  refine wpAny_bind (wpAny_tupleHeld_zip hz hT fun ha za sa => ?_)
  simp only [Bool.false_eq_true, if_false]
  refine wpAny_bind ?_
  rw [← Array.forIn_toList]
  simp only [List.forIn_cons, List.forIn_nil]
  refine wpAny_bind (wpAny_bind (wpAny_holding ?_)); change wpAny _ _ (Builtin.SmallTypes.nextOf (.ref i1) >>= _) _ _ _
  have s1a : St1 k ha := (D1 A hh).frame k _ _ s1 fun c hc o e => (sa.2 c fun q => ap.z1 (q ▸ hc)).trans e
  have s2a : St2 k ha := (D2 A hh).frame k _ _ s2 fun c hc o e => (sa.2 c fun q => ap.z2 (q ▸ hc)).trans e
  refine wpAny_bind ((D1 _ (by first | exact hh | simp [hh])).item k { s with heap := ha } _ _ h1 s1a fun x hb tb px s1b sb => wpAny_pure (wpAny_pure ?_))
  replace sb : Heap.SameBut i1 ha hb := sb
  have s2b : St2 k hb := (D2 A hh).frame k _ _ s2a fun c hc o e => (sb.2 c fun q => ap.x1 (q ▸ hc)).trans e
  refine wpAny_bind (wpAny_bind (wpAny_holding ?_)); change wpAny _ _ (Builtin.SmallTypes.nextOf (.ref i2) >>= _) _ _ _
  refine wpAny_bind ((D2 _ (by first | exact hh | simp [hh])).item k { s with heap := hb, toks := tb } _ _ h2 s2b fun y hd td py s2d sd => wpAny_pure (wpAny_pure (wpAny_pure ?_)))
  replace sd : Heap.SameBut i2 hb hd := sd
  show wpAny _ _ (newTuple [x, y] >>= _) _ _ _
  refine wpAny_bind (wpAny_newTuple ?_)
  have hsz : hd.objs.size = s.heap.objs.size := by rw [sd.1, sb.1, sa.1]
  have hzd : IsZipHeld hd z TI TO T true := (sd.2 z z2).trans ((sb.2 z z1).trans za)
  have hk : ∀ c o, c ≠ z → c ≠ i1 → c ≠ i2 → s.heap.get? c = some o → hd.get? c = some o := fun c o c1 c2 c3 e => (sd.2 c c3).trans ((sb.2 c c2).trans ((sa.2 c c1).trans e))
  have s1d : St1 (k + 1) hd := (D1 A hh).frame _ _ _ s1b fun c hc o e => (sd.2 c fun q => ap.x2 (q ▸ hc)).trans e
  refine wpAny_pure ⟨_, rfl, ?_⟩
  show Q (.ref hd.objs.size) _
  have hp : IsPair (hd.push { cls := .type "tuple", data := .seq #[x, y] }) hd.objs.size x y := Heap.get?_push_size _ rfl
  rw [hsz] at hp ⊢
  exact hQ _ _ x y px py (Heap.get?_push_of_some _ hzd) ((D1 A hh).frame _ _ _ s1d fun c _ o e => Heap.get?_push_of_some _ e) ((D2 A hh).frame _ _ _ s2d fun c _ o e => Heap.get?_push_of_some _ e) hp fun c o c1 c2 c3 e => Heap.get?_push_of_some _ (hk c o c1 c2 c3 e)
theorem zipD_end_held {Q : Fin → Shared → Prop} (hh : A.handled = none) (D1 : ∀ A1 : Around, A1.handled = none → Draws P w A1 i1 f1 n1 P1 St1) (D2 : ∀ A1 : Around, A1.handled = none → Draws P w A1 i2 f2 n2 P2 St2) (ap : ZipA z TI TO i1 i2 f1 f2)
    (hz : IsZipHeld s.heap z TI TO T fl) (hT : s.heap.get? T = some oT) (hTI : IsPair s.heap TI (.ref i1) (.ref i2)) (s1 : St1 k s.heap) (s2 : St2 k s.heap) (h1 : k = n1 ∨ (k < n1 ∧ k = n2))
    (hE : ∀ h5 tk e, (∀ c o, c ≠ z → c ≠ i1 → c ≠ i2 → s.heap.get? c = some o → h5.get? c = some o) → (∃ o, h5.get? e = some o ∧ o.cls = .type "StopIteration") → E (.ref e) { s with heap := h5, toks := tk }) :
    wpAny (model P w) A (Builtin.«zip.__next__» ⟨[.ref z], []⟩) Q E s := by
  change wpAny _ _ (field (.ref z) 2 >>= _) _ _ _
  refine wpAny_bind (wpAny_field hz rfl (x := .bool false) rfl (show _ from ?_)); change wpAny _ _ (field (.ref z) 3 >>= _) _ _ _
  refine wpAny_bind (wpAny_field hz rfl (x := .ref TI) rfl (wpAny_bind (wpAny_seqItems hTI rfl (show _ from ?_)))); change wpAny _ _ (Builtin.SmallTypes.ownedTupleIsFree (.ref z) >>= _) _ _ _
  refine wpAny_bind (wpAny_tupleHeld_zip hz hT fun ha za sa => ?_)
  simp only [Bool.false_eq_true, if_false]
  refine wpAny_bind ?_
  rw [← Array.forIn_toList]
  simp only [List.forIn_cons, List.forIn_nil]
  refine wpAny_bind (wpAny_bind (wpAny_holding ?_)); change wpAny _ _ (Builtin.SmallTypes.nextOf (.ref i1) >>= _) _ _ _
  have s1a : St1 k ha := (D1 A hh).frame k _ _ s1 fun c hc o e => (sa.2 c fun q => ap.z1 (q ▸ hc)).trans e
  have s2a : St2 k ha := (D2 A hh).frame k _ _ s2 fun c hc o e => (sa.2 c fun q => ap.z2 (q ▸ hc)).trans e
  rcases h1 with rfl | ⟨h1, rfl⟩
  · refine wpAny_bind ((D1 _ (by first | exact hh | simp [hh])).done { s with heap := ha } _ _ s1a fun hb e sb he => ?_)
    exact hE hb _ e (fun c o c1 c2 _ q => sb _ _ c2 ((sa.2 c c1).trans q)) he
  · refine wpAny_bind ((D1 _ (by first | exact hh | simp [hh])).item k { s with heap := ha } _ _ h1 s1a fun x hb tb px s1b sb => wpAny_pure (wpAny_pure ?_))
    replace sb : Heap.SameBut i1 ha hb := sb
    have s2b : St2 k hb := (D2 A hh).frame k _ _ s2a fun c hc o e => (sb.2 c fun q => ap.x1 (q ▸ hc)).trans e
    refine wpAny_bind (wpAny_bind (wpAny_holding ?_)); change wpAny _ _ (Builtin.SmallTypes.nextOf (.ref i2) >>= _) _ _ _
    refine wpAny_bind ((D2 _ (by first | exact hh | simp [hh])).done { s with heap := hb, toks := tb } _ _ s2b fun hd e sd he => ?_)
    exact hE hd _ e (fun c o c1 c2 c3 q => sd _ _ c3 ((sb.2 c c2).trans ((sa.2 c c1).trans q))) he
theorem pyNext_zipD_item_held {Q : Option Value → Shared → Prop} (hh : A.handled = none) (D1 : ∀ A1 : Around, A1.handled = none → Draws P w A1 i1 f1 n1 P1 St1) (D2 : ∀ A1 : Around, A1.handled = none → Draws P w A1 i2 f2 n2 P2 St2) (ap : ZipA z TI TO i1 i2 f1 f2)
    (hz : IsZipHeld s.heap z TI TO T fl) (hT : s.heap.get? T = some oT) (hTI : IsPair s.heap TI (.ref i1) (.ref i2)) (s1 : St1 k s.heap) (s2 : St2 k s.heap) (h1 : k < n1) (h2 : k < n2)
    (hQ : ∀ h5 tk x y, P1 k x → P2 k y → IsZipHeld h5 z TI TO T true → St1 (k + 1) h5 → St2 (k + 1) h5 → IsPair h5 s.heap.objs.size x y →
      (∀ c o, c ≠ z → c ≠ i1 → c ≠ i2 → s.heap.get? c = some o → h5.get? c = some o) → Q (some (.ref s.heap.objs.size)) { s with heap := h5, toks := tk }) : wpAny (model P w) A (pyNext (.ref z)) Q E s := by
  have hTy : s.TypeIs (.ref z) "zip" := ⟨_, hz, rfl⟩
  unfold pyNext
  exact wpAny_bind (wpAny_attempt (wpAny_callSpecial?_slot (name := Str.ofString "__next__") hTy F.slot_zip_next (wpAny_call_entry F.slot_zip_next hTy F.entry_zip_next
    (zipD_item_held (by first | exact hh | simp [hh]) D1 D2 ap hz hT hTI s1 s2 h1 h2 fun h5 tk x y q1 q2 q3 q5 q6 q7 q8 => wpAny_pure (hQ h5 tk x y q1 q2 q3 q5 q6 q7 q8)) (F.args_zip_next_1 _))))
theorem pyNext_zipD_end_held {Q : Option Value → Shared → Prop} (hh : A.handled = none) (D1 : ∀ A1 : Around, A1.handled = none → Draws P w A1 i1 f1 n1 P1 St1) (D2 : ∀ A1 : Around, A1.handled = none → Draws P w A1 i2 f2 n2 P2 St2) (ap : ZipA z TI TO i1 i2 f1 f2)
    (hz : IsZipHeld s.heap z TI TO T fl) (hT : s.heap.get? T = some oT) (hTI : IsPair s.heap TI (.ref i1) (.ref i2)) (s1 : St1 k s.heap) (s2 : St2 k s.heap) (h1 : k = n1 ∨ (k < n1 ∧ k = n2))
    (hQ : ∀ h5 tk, (∀ c o, c ≠ z → c ≠ i1 → c ≠ i2 → s.heap.get? c = some o → h5.get? c = some o) → Q none { s with heap := h5, toks := tk }) : wpAny (model P w) A (pyNext (.ref z)) Q E s := by
  have hTy : s.TypeIs (.ref z) "zip" := ⟨_, hz, rfl⟩
  unfold pyNext
  refine wpAny_bind (wpAny_attempt (wpAny_callSpecial?_slot (name := Str.ofString "__next__") hTy F.slot_zip_next (wpAny_call_entry F.slot_zip_next hTy F.entry_zip_next
    (zipD_end_held (by first | exact hh | simp [hh]) D1 D2 ap hz hT hTI s1 s2 h1 fun h5 tk e keep he => show _ from ?_) (F.args_zip_next_1 _))))
  obtain ⟨o, ho, hc⟩ := he
  exact wpAny_bind (wpAny_isInstance (T := "StopIteration") (b := true) ⟨o, ho, hc⟩ isSubtype_stop (wpAny_pure (hQ h5 tk keep)))
end
section
variable {P : Program} {w : World}
theorem PairArg.zipSL (x : Str) (t : Tok) (z TI TO i1 i2 l2 : Addr) (ys : Array Value) (D : ZipA z TI TO i1 i2 [i1] [i2, l2]) (n : Nat) (hn : n = min x.cps.size ys.size) :
    PairArg P w "zip" z [z, TI, TO, i1, i2, l2] [z, TO, i1, i2] n (fun i k v => (∃ c u, x.cps[i]? = some c ∧ k = .str ⟨#[c]⟩ u) ∧ ys[i]? = some v)
      (fun h => IsZip h z TI TO .none ∧ IsPair h TI (.ref i1) (.ref i2) ∧ (∃ a b, IsPair h TO a b) ∧ h.IsStrIter i1 (strIterType x) x t 0 ∧ h.IsListIter i2 l2 0 ∧ h.IsList l2 ys) where
  type := fun s ok => ⟨_, ok.1, rfl⟩
  notDict := by decide
  keep := fun h h' ok hk => by
    obtain ⟨hz, hTI, ⟨a, b, hTO⟩, ⟨o1, h1, r1⟩, h2, hl2⟩ := ok
    exact ⟨hk _ _ hz, hk _ _ hTI, ⟨a, b, hk _ _ hTO⟩, ⟨o1, hk _ _ h1, r1⟩, h2.at fun o e => hk _ o e, hl2.at fun o e => hk _ o e⟩
  there := fun h ok b hb => by
    obtain ⟨hz, hTI, ⟨a, c, hTO⟩, ⟨o1, h1, _⟩, ⟨o2, h2, _⟩, ⟨o4, hl2, _⟩⟩ := ok
    simp only [List.mem_cons, List.not_mem_nil, or_false] at hb
    rcases hb with rfl | rfl | rfl | rfl | rfl | rfl
    all_goals first | exact ⟨_, hz⟩ | exact ⟨_, hTI⟩ | exact ⟨_, hTO⟩ | exact ⟨_, h1⟩ | exact ⟨_, h2⟩ | exact ⟨_, hl2⟩
  sub := fun b hb => by simp at hb ⊢; rcases hb with rfl | rfl | rfl | rfl <;> simp
  noKeys := fun A s Q E hA ok h => getAttrOr_miss_zip ok.1 rfl rfl rfl zip_no_keys (by decide +kernel) hA h
  iter := fun A s d Q E hA ok hd hdf h => by
    subst hn
    obtain ⟨hz, hTI, ⟨a, b, hTO⟩, h1, h2, hl2⟩ := ok
    simp only [List.mem_cons, List.not_mem_nil, or_false, not_or] at hdf
    obtain ⟨dz, dTI, dTO, di1, di2, dl2⟩ := hdf
    have nl : l2 ≠ i2 := fun e => by
      subst e
      obtain ⟨o, ho, hc, _⟩ := h2
      obtain ⟨o', ho', hc', _⟩ := hl2
      rw [ho] at ho'
      cases ho'
      rw [hc] at hc'
      exact absurd hc' (by decide)
    have E1 := drawsText (P := P) (w := w) x t i1
    have E2 : ∀ A1 : Around, A1.handled = none → Draws P w A1 i2 [i2, l2] ys.size (fun i v => ys[i]? = some v) (fun i h => h.IsListIter i2 l2 i ∧ h.IsList l2 ys) := fun A1 hh => Draws.list hh i2 l2 nl ys
    refine wpAny_pyIter_zip hz (h z [z, TO, i1, i2] (fun i h => IsPair h TI (.ref i1) (.ref i2) ∧ h.IsStrIter i1 (strIterType x) x t i ∧ (h.IsListIter i2 l2 i ∧ h.IsList l2 ys) ∧
      ((IsZip h z TI TO .none ∧ ∃ a b, IsPair h TO a b) ∨ ∃ T f oT, IsZipHeld h z TI TO T f ∧ h.get? T = some oT ∧ T ≠ z ∧ T ≠ i1 ∧ T ≠ i2 ∧ T ≠ d)) s.heap s.toks ?_
      ⟨hTI, h1, ⟨h2, hl2⟩, .inl ⟨hz, a, b, hTO⟩⟩ (fun _ _ e => e) fun b hb => .inl hb)
    exact {
      off := fun hm => by
        simp only [List.mem_cons, List.not_mem_nil, or_false] at hm
        rcases hm with e | e | e | e
        · exact dz e
        · exact dTO e
        · exact di1 e
        · exact di2 e
      frame := fun i h₁ h₂ st hk => by
        obtain ⟨hTI, ⟨o1, h1, r1⟩, ⟨h2, hl2⟩, hz⟩ := st
        refine ⟨hk _ _ (Ne.symm dTI) hTI, ⟨o1, hk _ _ (Ne.symm di1) h1, r1⟩, ⟨h2.at fun o e => hk _ o (Ne.symm di2) e, hl2.at fun o e => hk _ o (Ne.symm dl2) e⟩, ?_⟩
        rcases hz with ⟨hz, a, b, hTO⟩ | ⟨T, f, oT, hz, hT, r1, r2, r3, r4⟩
        · exact .inl ⟨hk _ _ (Ne.symm dz) hz, a, b, hk _ _ (Ne.symm dTO) hTO⟩
        · exact .inr ⟨T, f, oT, hk _ _ (Ne.symm dz) hz, hk _ _ r4 hT, r1, r2, r3, r4⟩
      item := fun i s₁ Q₁ E₁ hi st hds hQ => by
        obtain ⟨hTI, h1, h2, hz⟩ := st
        have hix : i < x.cps.size := Nat.lt_of_lt_of_le hi (Nat.min_le_left ..)
        have hiy : i < ys.size := Nat.lt_of_lt_of_le hi (Nat.min_le_right ..)
        have lt : ∀ {c o}, s₁.heap.get? c = some o → s₁.heap.objs.size ≠ c := fun e => Nat.ne_of_gt (Heap.lt_size e)
        have n1 : s₁.heap.objs.size ≠ i1 := let ⟨_, e, _⟩ := h1; lt e
        have n2 : s₁.heap.objs.size ≠ i2 := let ⟨_, e, _⟩ := h2.1; lt e
        have u1 : TI ≠ i1 := ne_in D.u1 D.m1
        have u2 : TI ≠ i2 := ne_in D.u2 D.m2
        rcases hz with ⟨hz, a, b, hTO⟩ | ⟨T, f, oT, hz, hT, r1, r2, r3, r4⟩
        · refine pyNext_zipD_item hA E1 E2 D hz hTI hTO h1 h2 hix hiy fun h' tk p q a1 a2 a3 a4 a5 a6 a7 hk => ?_
          exact hQ s₁.heap.objs.size _ _ h' tk ⟨a1, a2⟩ (.inl ⟨_, a7, rfl, _, rfl⟩)
            ⟨hk _ _ D.zTI.symm D.TIO u1 u2 hTI, a5, a6, .inr ⟨s₁.heap.objs.size, false, _, a3, a7, lt hz, n1, n2, Nat.ne_of_gt hds⟩⟩
            fun c o hc e => hk c o (fun x => hc (by simp [x])) (fun x => hc (by simp [x])) (fun x => hc (by simp [x])) (fun x => hc (by simp [x])) e
        · refine pyNext_zipD_item_held hA E1 E2 D hz hT hTI h1 h2 hix hiy fun h' tk p q a1 a2 a3 a5 a6 a7 hk => ?_
          exact hQ s₁.heap.objs.size _ _ h' tk ⟨a1, a2⟩ (.inl ⟨_, a7, rfl, _, rfl⟩)
            ⟨hk _ _ D.zTI.symm u1 u2 hTI, a5, a6, .inr ⟨T, true, oT, a3, hk _ _ r1 r2 r3 hT, r1, r2, r3, r4⟩⟩
            fun c o hc e => hk c o (fun x => hc (by simp [x])) (fun x => hc (by simp [x])) (fun x => hc (by simp [x])) e
      done := fun s₁ Q₁ E₁ st hQ => by
        obtain ⟨hTI, h1, h2, hz⟩ := st
        have hend : min x.cps.size ys.size = x.cps.size ∨ (min x.cps.size ys.size < x.cps.size ∧ min x.cps.size ys.size = ys.size) := by omega
        rcases hz with ⟨hz, a, b, hTO⟩ | ⟨T, f, oT, hz, hT, r1, r2, r3, r4⟩
        · exact pyNext_zipD_end hA E1 E2 D hz hTI hTO h1 h2 hend fun h' tk hk => hQ h' tk fun c o hc e => hk c o (fun x => hc (by simp [x])) (fun x => hc (by simp [x])) (fun x => hc (by simp [x])) (fun x => hc (by simp [x])) e
        · exact pyNext_zipD_end_held hA E1 E2 D hz hT hTI h1 h2 hend fun h' tk hk => hQ h' tk fun c o hc e => hk c o (fun x => hc (by simp [x])) (fun x => hc (by simp [x])) (fun x => hc (by simp [x])) e }
end
/-! ### the call zip(text, list) -/
section
variable {P : Program} {w : World} {A : Around} {E : Value → Shared → Prop} {s : Shared}
abbrev yh2 (h : Heap) (x : Str) (t : Tok) (l : Addr) : Heap := (zh1 h x t).push { cls := .type "list_iterator", data := .fields #[.ref l, .int 0 0] }
abbrev yh3 (h : Heap) (x : Str) (t : Tok) (l : Addr) : Heap := (yh2 h x t l).push { cls := .type "tuple", data := .seq #[.ref h.objs.size, .ref (zh1 h x t).objs.size] }
abbrev yh4 (h : Heap) (x : Str) (t : Tok) (l : Addr) : Heap := (yh3 h x t l).push { cls := .type "tuple", data := .seq #[.none, .none] }
abbrev yh5 (h : Heap) (x : Str) (t : Tok) (l : Addr) : Heap := (yh4 h x t l).push { cls := .type "zip", data := .fields #[.none, .bool false, .bool false, .ref (yh2 h x t l).objs.size, .ref (yh3 h x t l).objs.size] }
set_option maxHeartbeats 4000000 in
theorem meets_zipSL (x : Str) (t : Tok) (l : Addr) (ys : Array Value) : Meets (Builtin.«zip.__new__» ⟨[.type "zip", .str x t, .ref l], []⟩) (fun _ R s => s.heap.IsList l ys ∧ R (.ok (.ret (.ref (yh4 s.heap x t l).objs.size))) { s with heap := yh5 s.heap x t l }) :=
  .of_wp fun prog w A R s h => by
    obtain ⟨hp, g, d, tk, os⟩ := s
    obtain ⟨hl, h⟩ := h
    have hl2 : (zh1 hp x t).IsList l ys := hl.at fun o e => Heap.get?_push_of_some _ e
    have sb := sub_zip
    wp_walk using wpAny_pyIter_strU, wpAny_pyIter_list hl2
    exact ⟨_, rfl, h⟩
theorem call_zipSL {x : Str} {t : Tok} {l : Addr} {ys : Array Value} {Q : Value → Shared → Prop} (hl : s.heap.IsList l ys)
    (h : ∀ h1, IsZip h1 (s.heap.objs.size + 4) (s.heap.objs.size + 2) (s.heap.objs.size + 3) .none → IsPair h1 (s.heap.objs.size + 2) (.ref s.heap.objs.size) (.ref (s.heap.objs.size + 1)) → IsPair h1 (s.heap.objs.size + 3) .none .none →
      h1.IsStrIter s.heap.objs.size (strIterType x) x t 0 → h1.IsListIter (s.heap.objs.size + 1) l 0 → (∀ c o, s.heap.get? c = some o → h1.get? c = some o) → Q (.ref (s.heap.objs.size + 4)) { s with heap := h1 }) :
    wpAny (model P w) A (call (.type "zip") [.str x t, .ref l]) Q E s := by
  refine callType_new F.called_zip (by decide) (F.typeCall_zip_2 _ _) (F.newCall_zip_2 _ _) (fun obj => F.args_object_init_3 obj _ _) F.entry_zip_new (meets_zipSL x t l ys) ⟨hl, show _ ∧ _ from ?_⟩
  have n1 : (zh1 s.heap x t).objs.size = s.heap.objs.size + 1 := Heap.size_push ..
  have n2 : (yh2 s.heap x t l).objs.size = s.heap.objs.size + 2 := by rw [Heap.size_push, n1]
  have n3 : (yh3 s.heap x t l).objs.size = s.heap.objs.size + 3 := by rw [Heap.size_push, n2]
  have n4 : (yh4 s.heap x t l).objs.size = s.heap.objs.size + 4 := by rw [Heap.size_push, n3]
  have e5 : (yh5 s.heap x t l).get? (yh4 s.heap x t l).objs.size = some _ := Heap.get?_push_size _ rfl
  have e4 : (yh5 s.heap x t l).get? (yh3 s.heap x t l).objs.size = some _ := Heap.get?_push_of_some _ (Heap.get?_push_size _ rfl)
  have e3 : (yh5 s.heap x t l).get? (yh2 s.heap x t l).objs.size = some _ := Heap.get?_push_of_some _ (Heap.get?_push_of_some _ (Heap.get?_push_size _ rfl))
  have e2 : (yh5 s.heap x t l).get? (zh1 s.heap x t).objs.size = some { cls := .type "list_iterator", data := .fields #[.ref l, .int 0 0] } := Heap.get?_push_of_some _ (Heap.get?_push_of_some _ (Heap.get?_push_of_some _ (Heap.get?_push_size _ rfl)))
  have e1 : (yh5 s.heap x t l).get? s.heap.objs.size = some (strItO x t) := Heap.get?_push_of_some _ (Heap.get?_push_of_some _ (Heap.get?_push_of_some _ (Heap.get?_push_of_some _ (Heap.get?_push_size _ rfl))))
  rw [n2, n3, n4] at e5; rw [n1, n2] at e3; rw [n3] at e4; rw [n1] at e2; rw [n4]
  exact ⟨⟨_, e5, rfl⟩, h _ e5 e3 e4 ⟨_, e1, rfl, rfl⟩ ⟨_, e2, rfl, rfl⟩ fun c o q => Heap.get?_push_of_some _ (Heap.get?_push_of_some _ (Heap.get?_push_of_some _ (Heap.get?_push_of_some _ (Heap.get?_push_of_some _ q))))⟩
end

/-! ### tuple(text) -/
def rTupS : List V → Hp → VK → Prop := fun xs H Q => ∃ l : List Nat, xs = [.str (S l)] ∧ l.length ≤ 100000 ∧ ∀ p, H p = none → Q (.ref p) (upd H p (.tup (l.map fun c => V.str (S [c]))))
theorem cr_tupleS {X : Cx} (hc : X.calm = true) : CallR X (.type "tuple") rTupS := by
  intro pins s σ H xs us Q I r h
  obtain ⟨l, rfl, hl, q⟩ := h
  obtain ⟨u, rfl, rx⟩ := vals1 r
  obtain ⟨t, rfl⟩ := rx
  have hz : (S l).cps.size = l.length := by simp [S]
  refine call_tuple_str (I.ok.hd hc) (S l) t (fun h1 tk acc keep items => ?_) (by rw [hz, sizeLine_eq]; omega)
  have ok : Vals (l.map fun c => V.str (S [c])) acc.toList := by
    have el : acc.toList.length = acc.size := by simp
    refine vals_of_at (by rw [List.length_map, el, items.1, hz]) fun j x w e1 e2 => ?_
    obtain ⟨c, u, hc1, rfl⟩ := items.2 j w (by rw [← Array.getElem?_toList]; exact e2)
    have hc2 : l[j]? = some c := by rw [← hc1]; simp [S]
    rw [List.getElem?_map, hc2] at e1
    obtain rfl := Option.some.inj e1
    exact ⟨u, rfl⟩
  have I2 : Inv X pins σ H { s with heap := h1, toks := tk } := I.kept keep
  exact ⟨.ref h1.objs.size, upd H h1.objs.size (.tup (l.map fun c => V.str (S [c]))), I2.laid (t' := tk) (fun b o e => Heap.get?_push_of_some _ e) (Nat.le_refl _) (show ObjOk X.prog X.w _ _ _ (.tup (l.map fun c => V.str (S [c]))) from
    ⟨by rw [List.length_map, sizeLine_eq]; omega, acc.toList, ok, ⟨_, Heap.get?_push_size _ rfl, rfl, _, rfl⟩⟩), rfl, q _ (I2.hok.fresh (Nat.le_refl _))⟩
/-! ### dict(zip(text, list)) -/
def zkv (l : List Nat) (ws : List V) : List (Key × V) := (l.zip ws).map fun p => (Sum.inr (S [p.1]), p.2)
def zkr (l : List Nat) (us : List Value) : List (Key × Value) := (l.zip us).map fun p => (Sum.inr (S [p.1]), p.2)
theorem zkv_rel : ∀ (l : List Nat) {ws : List V} {us : List Value}, Vals ws us → KV (zkv l ws) (zkr l us)
  | [], _, _, _ => .nil
  | _ :: _, _, _, .nil => .nil
  | c :: l, _, _, .cons h t => .cons ⟨rfl, h⟩ (zkv_rel l t)
section
variable {X : Cx} {e e2 : Expr} {ta : TA} {p p2 q pos : Pos}
def tDictZ (K : PySem.W.Frag) (ta : TA) : TE := fun σ H Q => ta σ H fun vs H1 => ∃ (l : List Nat) (a : Addr) (ws : List V), vs = [.str (S l), .ref a] ∧ l.length ≤ 100000 ∧ SqL K H1 a ws ∧ ∀ p, H1 p = none → Q (.ref p) (upd H1 p (.dK (mergeK [] (zkv l ws))))
theorem pe_dictZ (hc : X.calm = true) (g1 : Gl X "dict") (m1 : X.mg "dict" = none) (g2 : Gl X "zip") (m2 : X.mg "zip" = none) (ha : PA X [e, e2] ta)
    (hs : starEach [e, e2] X.env = (false, eval e X.env) :: starEach [e2] X.env := by rfl) (hpl : (backTo q (starEach [e2] X.env)).any (·.1) = false := by rfl) :
    PE X (.Call (.Name "dict" p) [.Call (.Name "zip" p2) [e, e2] [] q] [] pos) (tDictZ X.K ta) := by
  constructor
  intro pins s σ H Q I h
  refine Call_ (ld_blt I g1 m1 PyProof.Rows.boot_dict (PyProof.Rows.callWith_type1 (PyProof.Rows.args_cons ?_ rfl) rfl rfl))
  refine Call_ (ld_blt I g2 m2 PyProof.Rows.boot_zip (PyProof.Rows.callWith_type1 (thn (ha.run q pins s σ H _ I h) fun us s1 ⟨vs, H1, I1, r1, q1⟩ => ?_) hs hpl))
  obtain ⟨l, a, ws, rfl, hl, hq, q1⟩ := q1
  cases r1 with
  | cons r rr =>
    cases rr with
    | cons r2 rr =>
      cases rr
      obtain ⟨t, rfl⟩ := r
      cases r2
      obtain ⟨its, rv, pl, hz⟩ := I1.list hq
      obtain ⟨o, n, ho, hcl, hd, hdat⟩ := pl
      have hL : s1.heap.IsList a its.toArray := ⟨o, ho, hcl, n, hdat⟩
      refine call_zipSL hL fun h1 hz hTI hTO a1 a2 keep => PyProof.Rows.args_nil ?_
      have zs : (S l).cps.size = l.length := by simp [S]
      have us : its.length = ws.length := rv.length.symm
      have k0 : (zkr l its).length = min l.length its.length := by unfold zkr; rw [List.length_map, List.length_zip]
      have na : a < s1.heap.objs.size := Heap.lt_size ho
      have key : ∀ u v : Nat, u ≠ v → u ∉ ([v] : List Addr) := fun u v h m => h (List.mem_singleton.mp m)
      have key2 : ∀ u v w : Nat, u ≠ v → u ≠ w → u ∉ ([v, w] : List Addr) := fun u v w h h2 m => by
        simp only [List.mem_cons, List.not_mem_nil, or_false] at m
        exact m.elim h h2
      have nn : ∀ u v : Nat, u ≠ v → (show Addr from u) ≠ v := fun u v h => h
      have na' : ∀ k : Nat, s1.heap.objs.size + k ≠ a := fun k e => absurd na (by rw [← e]; exact Nat.not_lt.mpr (Nat.le_add_right _ _))
      have Ap : ZipA (s1.heap.objs.size + 4) (s1.heap.objs.size + 2) (s1.heap.objs.size + 3) s1.heap.objs.size (s1.heap.objs.size + 1) [s1.heap.objs.size] [s1.heap.objs.size + 1, a] :=
        ⟨key _ _ (by omega), key2 _ _ _ (by omega) (na' 4), key _ _ (by omega), key2 _ _ _ (by omega) (na' 3), key _ _ (by omega), key2 _ _ _ (by omega) (na' 2), key2 _ _ _ (by omega) (na' 0), key _ _ (by omega), List.mem_cons_self, List.mem_cons_self, nn _ _ (by omega), nn _ _ (by omega), nn _ _ (by omega)⟩
      have Par := PairArg.zipSL (P := X.prog) (w := X.w) (S l) t (s1.heap.objs.size + 4) (s1.heap.objs.size + 2) (s1.heap.objs.size + 3) s1.heap.objs.size (s1.heap.objs.size + 1) a its.toArray Ap (min l.length its.length) (by rw [zs]; simp)
      have le : s1.heap.objs.size ≤ h1.objs.size := by
        exact Nat.le_of_lt (Nat.lt_of_le_of_lt (Nat.le_add_right _ 4) (Heap.lt_size hz))
      refine _root_.PySem.call_dict_pairs (knd := mixKind X.prog X.w) (kvs := zkr l its) Par (I1.ok.hd hc) ⟨hz, hTI, ⟨_, _, hTO⟩, a1, a2, hL.at fun o e => keep _ _ e⟩ ⟨k0, ?_⟩ (by rw [sizeLine_eq]; omega) fun h' tk hd' hk => ?_
      · rintro i key v ⟨⟨c, u, hc1, rfl⟩, hv⟩
        have hc2 : l[i]? = some c := by rw [← hc1]; simp [S]
        have hv2 : its[i]? = some v := by rw [← hv]; simp
        refine ⟨Sum.inr (S [c]), ?_, mixKind_str _ _ _ _⟩
        unfold zkr
        rw [List.getElem?_map, List.getElem?_zip_eq_some (z := (c, v)) |>.mpr ⟨hc2, hv2⟩]
        rfl
      · have hm : (h1.objs.size == sysModules) = false := beq_eq_false_iff_ne.mpr (Nat.ne_of_gt (Nat.lt_of_lt_of_le I1.big le))
        have rel := zkv_rel l rv
        have hlen : (mergeK [] (zkv l ws)).length ≤ sizeLine := by
          refine Nat.le_trans (length_mergeK _ []) ?_
          rw [List.length_nil, Nat.zero_add]
          unfold zkv
          rw [List.length_map, List.length_zip, sizeLine_eq]
          omega
        have kk : ∀ b o, s1.heap.get? b = some o → h'.get? b = some o := fun b o e => by
          have lt := Heap.lt_size e
          refine hk b o (fun hm => ?_) (keep b o e)
          simp only [List.mem_cons, List.not_mem_nil, or_false] at hm
          rcases hm with q | q | q | q <;> (rw [q] at lt; exact absurd lt (by first | exact Nat.lt_irrefl _ | exact Nat.not_lt.mpr (Nat.le_add_right _ _)))
        exact ⟨.ref h1.objs.size, upd H1 h1.objs.size (.dK (mergeK [] (zkv l ws))), I1.laid (t' := tk) kk le (show ObjOk X.prog X.w _ _ _ (.dK (mergeK [] (zkv l ws))) from ⟨hlen, hm, merged [] (zkr l its), KV.merge rel .nil, hd'⟩), rfl, q1 _ (I1.hok.fresh le)⟩
end
/-! ### reading such a dict -/
theorem mergeK_new : ∀ (kvs acc : List (Key × V)), (∀ p ∈ kvs, valV acc p.1 = none) → (kvs.map (·.1)).Nodup → mergeK acc kvs = acc ++ kvs
  | [], acc, _, _ => by show acc = acc ++ []; rw [List.append_nil]
  | q :: r, acc, h, nd => by
    rw [List.map_cons, List.nodup_cons] at nd
    show mergeK (putK acc q.1 q.2) r = _
    rw [putK_new q.2 (h q List.mem_cons_self), mergeK_new r _ (fun p hp => ?_) nd.2, List.append_assoc]
    · rfl
    · rw [valV_snoc _ _ _ _ (h q List.mem_cons_self), if_neg (fun e => nd.1 (by rw [← e]; exact List.mem_map_of_mem hp))]
      exact h p (List.mem_cons_of_mem _ hp)
theorem zkv_keys : ∀ (l : List Nat) (ws : List V), l.length ≤ ws.length → (zkv l ws).map (·.1) = l.map fun c => (Sum.inr (S [c]) : Key)
  | [], _, _ => rfl
  | c :: l, [], h => absurd h (by simp)
  | c :: l, w :: ws, h => by
    have := zkv_keys l ws (by simpa using h)
    show _ :: ((zkv l ws).map (·.1)) = _ :: (l.map fun c => (Sum.inr (S [c]) : Key))
    rw [this]
theorem zkv_merge {l : List Nat} {ws : List V} (nd : l.Nodup) (h : l.length ≤ ws.length) : mergeK [] (zkv l ws) = zkv l ws := by
  rw [mergeK_new _ _ (fun _ _ => rfl), List.nil_append]
  rw [zkv_keys l ws h]
  exact nd.map (f := fun c => (Sum.inr (S [c]) : Key)) fun c d h e => h (by
    have := SX.S_inj (Sum.inr.inj e)
    rw [List.cons.injEq] at this
    exact this.1)
theorem zkv_get : ∀ {l : List Nat} {ws : List V} {c : Nat} {v : V}, c ∈ l → ws[l.idxOf c]? = some v → valV (zkv l ws) (Sum.inr (S [c])) = some v
  | d :: l, [], c, v, _, e => by simp at e
  | d :: l, w :: ws, c, v, h, e => by
    show valV ((Sum.inr (S [d]), w) :: zkv l ws) _ = _
    by_cases q : d = c
    · subst q
      rw [List.idxOf_cons_self] at e
      rw [valV_pos rfl]
      exact e
    · rw [valV_neg (fun z => q (by
        have := SX.S_inj (Sum.inr.inj z)
        rw [List.cons.injEq] at this
        exact this.1))]
      rw [List.idxOf_cons, show (d == c) = false from beq_eq_false_iff_ne.mpr q] at e
      replace e : (w :: ws)[l.idxOf c + 1]? = some v := e
      rw [List.getElem?_cons_succ] at e
      exact zkv_get ((List.mem_cons.mp h).resolve_left fun z => q z.symm) e
theorem zkv_at {H : Hp} {a : Addr} {l : List Nat} {ws : List V} {c : Nat} {v : V} (nd : l.Nodup) (hn : l.length ≤ ws.length) (hA : Rd H a (.dK (mergeK [] (zkv l ws)))) (h : c ∈ l) (e : ws[l.idxOf c]? = some v) : DGet H a (.str (S [c])) (some v) := by
  rw [zkv_merge nd hn] at hA
  exact .inl ⟨_, Sum.inr (S [c]), hA, rfl, (zkv_get h e).symm⟩
section
variable {X : Cx} {K : PySem.W.Frag}
theorem call_tupleK (h : X.K = K := by rfl) : CallR X (.type "tuple") (fun xs H Q => ∃ p ys, xs = [.ref p] ∧ ((SqL K H p ys ∧ ∀ l, H l = none → Q (.ref l) (upd H l (.tup ys))) ∨ (SqT K H p ys ∧ Q (.ref p) H))) := h ▸ call_tuple_of
end

/-! ### values of values (k04) -/
theorem caps128' {l : List Nat} (h : ∀ c ∈ l, c ∈ capL) : l.all (· < 128) = true := by
  rw [List.all_eq_true]
  intro c hc
  have : ∀ c ∈ capL, c < 128 := by decide
  exact decide_eq_true (this c (h c hc))
def upL (l : List Nat) : List Nat := l.map fun c => c + 32
theorem lo_cap {l : List Nat} (h : ∀ c ∈ l, c ∈ capL) : l.map PyProof.Rows.lo1 = upL l := by
  refine List.map_congr_left fun c hc => ?_
  have : ∀ c ∈ capL, PyProof.Rows.lo1 c = c + 32 := by decide +kernel
  exact this c (h c hc)
theorem lower_cap {l : List Nat} (h : ∀ c ∈ l, c ∈ capL) : Txt.lower (S l) = S (upL l) := by
  rw [SX.lower_S (caps128' h), lo_cap h]
theorem upL_inj {l m : List Nat} (h : upL l = upL m) : l = m := by
  have key : ∀ l m : List Nat, upL l = upL m → l = m := fun l => by
    induction l with
    | nil => intro m h; cases m with
      | nil => rfl
      | cons d m => cases h
    | cons c l ih => intro m h; cases m with
      | nil => cases h
      | cons d m =>
        have h : (c + 32) :: upL l = (d + 32) :: upL m := h
        rw [List.cons.injEq] at h
        rw [ih m h.2, show c = d by omega]
  exact key l m h
theorem cap_up {c : Nat} (h : c ∈ capL) : c + 32 ∈ smallL := by
  have : ∀ c ∈ capL, c + 32 ∈ smallL := by decide
  exact this c h
/-- the single letters a, b, .. -/
def sgL (n : Nat) : List (List Nat) := (smallL.take n).map fun c => [c]
theorem sgL_len {n : Nat} (h : n ≤ 7) : (sgL n).length = n := by
  unfold sgL
  rw [List.length_map, List.length_take, show smallL.length = 26 from rfl]
  omega
theorem sgL_wd {n : Nat} : ∀ w ∈ sgL n, Wd w ∧ w ≠ [] := fun w hw => by
  obtain ⟨c, hc, rfl⟩ := List.mem_map.mp hw
  have hm := List.mem_of_mem_take hc
  exact ⟨⟨by show 1 ≤ 200; decide, fun x hx => by rw [List.mem_singleton.mp hx]; exact hm⟩, fun e => by cases e⟩
theorem sgL_at {n k : Nat} (h : n ≤ 7) (hk : k < n) : (sgL n)[k]?.getD [] = [capL[k]?.getD 0 + 32] := by
  have key : ∀ n, n ≤ 7 → ∀ k, k < n → (sgL n)[k]?.getD [] = [capL[k]?.getD 0 + 32] := by decide +kernel
  exact key n h k hk
theorem val_single {l : List Nat} {n : Nat} (hn : (dist l).length = n) (h7 : n ≤ 7) : valL l (sgL n) = upL (nf l) := by
  unfold valL upL nf
  rw [List.map_map]
  have e : (l.map fun c => (sgL n)[(dist l).idxOf c]?.getD []) = l.map fun c => [capL[(dist l).idxOf c]?.getD 0 + 32] := List.map_congr_left fun c hc => by
    have := idx_dist_lt hc
    exact sgL_at h7 (by omega)
  rw [e, flat1]
  rfl
theorem dist_app_len (a b : List Nat) : (dist (a ++ b)).length ≤ (dist a).length + (dist b).length := by
  rw [← List.length_append]
  refine nodup_len (dist_nodup _) fun x hx => ?_
  rw [List.mem_append, mem_dist, mem_dist, ← List.mem_append]
  exact mem_dist.mp hx
theorem dist_flat_len : ∀ {ps : List (List Nat)}, (∀ p ∈ ps, (dist p).length ≤ 2) → (dist ps.flatten).length ≤ 2 * ps.length
  | [], _ => by decide
  | p :: ps, h => by
    rw [List.flatten_cons, List.length_cons]
    have h1 := dist_app_len p ps.flatten
    have h2 := h p List.mem_cons_self
    have h3 := dist_flat_len (ps := ps) fun q hq => h q (List.mem_cons_of_mem _ hq)
    omega
/-- the word of a letter -/
def wOf (L : List Nat) (ws : List (List Nat)) (c : Nat) : List Nat := ws[L.idxOf c]?.getD []
theorem wOf_at {L : List Nat} {ws : List (List Nat)} {c : Nat} (h : c ∈ L) (hn : ws.length = L.length) : ws[L.idxOf c]? = some (wOf L ws c) := by
  have hl := List.idxOf_lt_length_iff.mpr h
  unfold wOf
  rw [List.getElem?_eq_getElem (show L.idxOf c < ws.length by omega)]
  rfl
theorem wOf_mem {L : List Nat} {ws : List (List Nat)} {c : Nat} (h : c ∈ L) (hn : ws.length = L.length) : wOf L ws c ∈ ws := List.mem_of_getElem? (wOf_at h hn)
theorem valL_map {l : List Nat} (f : Nat → List Nat) : valL l ((dist l).map f) = (l.map f).flatten := by
  unfold valL
  congr 1
  refine List.map_congr_left fun c hc => ?_
  have hlt := idx_dist_lt hc
  rw [List.getElem?_map, List.getElem?_eq_getElem hlt]
  show f (dist l)[(dist l).idxOf c] = f c
  rw [List.getElem_idxOf]
theorem flat_len {l : List Nat} {f : Nat → List Nat} {b : Nat} (h : ∀ c ∈ l, (f c).length ≤ b) : (l.map f).flatten.length ≤ l.length * b := by
  rw [List.length_flatten]
  refine Nat.le_trans (sum_le (b := b) fun x hx => ?_) ?_
  · obtain ⟨y, hy, rfl⟩ := List.mem_map.mp hx
    obtain ⟨c, hc, rfl⟩ := List.mem_map.mp hy
    exact h c hc
  · rw [List.length_map, List.length_map]
    exact Nat.le_refl _
theorem flat_wd {l : List Nat} {f : Nat → List Nat} (h0 : l ≠ []) (hl : l.length ≤ 20) (h : ∀ c ∈ l, Wd (f c) ∧ f c ≠ [] ∧ (f c).length ≤ 3) : Wd (l.map f).flatten ∧ (l.map f).flatten ≠ [] := by
  refine ⟨⟨?_, fun x hx => ?_⟩, fun e => ?_⟩
  · have := flat_len (b := 3) fun c hc => (h c hc).2.2
    omega
  · obtain ⟨y, hy, hxy⟩ := List.mem_flatten.mp hx
    obtain ⟨c, hc, rfl⟩ := List.mem_map.mp hy
    exact (h c hc).1.sm x hxy
  · cases l with
    | nil => exact h0 rfl
    | cons c r =>
      rw [List.map_cons, List.flatten_cons, List.append_eq_nil_iff] at e
      exact (h c List.mem_cons_self).2.1 e.1
/-- values of values -/
theorem val_val {l : List Nat} {ps : List (List Nat)} {f : Nat → List Nat} : valL l (ps.map fun own => (own.map f).flatten) = ((valL l ps).map f).flatten := by
  unfold valL
  rw [List.map_flatten, List.map_map, List.flatten_flatten, List.map_map]
  congr 1
  refine List.map_congr_left fun c _ => ?_
  show (ps.map fun own => (own.map f).flatten)[(dist l).idxOf c]?.getD [] = ((ps[(dist l).idxOf c]?.getD []).map f).flatten
  rw [List.getElem?_map]
  cases ps[(dist l).idxOf c]? with
  | none => rfl
  | some p => rfl
theorem val_mem {l : List Nat} {ps : List (List Nat)} {x : Nat} (h : x ∈ valL l ps) : x ∈ ps.flatten := by
  unfold valL at h
  obtain ⟨y, hy, hxy⟩ := List.mem_flatten.mp h
  obtain ⟨c, _, rfl⟩ := List.mem_map.mp hy
  cases e : ps[(dist l).idxOf c]? with
  | none => rw [e] at hxy; exact (nomatch hxy)
  | some p => rw [e] at hxy; exact List.mem_flatten.mpr ⟨p, List.mem_of_getElem? e, hxy⟩
theorem val_pat {l : List Nat} {ps : List (List Nat)} (hp : Pat l) (h4 : l.length ≤ 4) (hn : ps.length = (dist l).length) (h3 : ps.length ≤ 3) (hps : ∀ p ∈ ps, Pat p ∧ p.length ≤ 4 ∧ (dist p).length ≤ 2) : Pat (valL l ps) ∧ (valL l ps).length ≤ 16 := by
  have hm : ∀ c ∈ l, ps[(dist l).idxOf c]? = some (ps[(dist l).idxOf c]?.getD []) := fun c hc => by
    have hlt := idx_dist_lt hc
    rw [List.getElem?_eq_getElem (show (dist l).idxOf c < ps.length by omega)]
    rfl
  have hle : (valL l ps).length ≤ 16 := by
    have := flat_len (l := l) (f := fun c => ps[(dist l).idxOf c]?.getD []) (b := 4) fun c hc => (hps _ (List.mem_of_getElem? (hm c hc))).2.1
    unfold valL
    omega
  refine ⟨⟨?_, by omega, fun c hc => ?_, ?_⟩, hle⟩
  · cases l with
    | nil => exact absurd hp.lo (by decide)
    | cons c r =>
      have hq := hps _ (List.mem_of_getElem? (hm c List.mem_cons_self))
      have h1 := hq.1.lo
      unfold valL
      rw [List.map_cons, List.flatten_cons, List.length_append]
      omega
  · obtain ⟨p, hpp, hcp⟩ := List.mem_flatten.mp (val_mem hc)
    exact (hps p hpp).1.cap c hcp
  · have h1 : (dist (valL l ps)).length ≤ (dist ps.flatten).length := nodup_len (dist_nodup _) fun x hx => mem_dist.mpr (val_mem (mem_dist.mp hx))
    have h2 := dist_flat_len fun p hp => (hps p hp).2.2
    omega

/-! ### the text by places -/
def topS (i : Nat) : Stmt := PySem.Challenge.pw_surepatterns_k04_whole_values_of_values.main.body.getD i (.Pass ⟨0, 0, 0, 0⟩)
abbrev s_has_only : Stmt := topS 3
theorem sc_has_only : FnScope ["text", "letters", "character"] ["text", "letters"] (defScope s_has_only) := ⟨rfl, rfl, rfl, by decide +kernel, rfl, by decide +kernel, by decide +kernel⟩
abbrev s_is_word : Stmt := topS 15
theorem sc_is_word : FnScope ["value"] ["value"] (defScope s_is_word) := ⟨rfl, rfl, rfl, by decide +kernel, rfl, by decide +kernel, by decide +kernel⟩
abbrev s_distinct : Stmt := topS 4
theorem sc_distinct : FnScope ["text", "found", "character"] ["text"] (defScope s_distinct) := ⟨rfl, rfl, rfl, by decide +kernel, rfl, by decide +kernel, by decide +kernel⟩
abbrev s_is_pattern : Stmt := topS 14
theorem sc_is_pattern : FnScope ["value"] ["value"] (defScope s_is_pattern) := ⟨rfl, rfl, rfl, by decide +kernel, rfl, by decide +kernel, by decide +kernel⟩
abbrev s_need_pattern : Stmt := topS 16
theorem sc_need_pattern : FnScope ["value"] ["value"] (defScope s_need_pattern) := ⟨rfl, rfl, rfl, by decide +kernel, rfl, by decide +kernel, by decide +kernel⟩
abbrev s_letters_of : Stmt := topS 17
theorem sc_letters_of : FnScope ["pattern"] ["pattern"] (defScope s_letters_of) := ⟨rfl, rfl, rfl, by decide +kernel, rfl, by decide +kernel, by decide +kernel⟩
abbrev s_in_normal_form : Stmt := topS 19
theorem sc_in_normal_form : FnScope ["pattern", "letters", "letter"] ["pattern"] (defScope s_in_normal_form) := ⟨rfl, rfl, rfl, by decide +kernel, rfl, by decide +kernel, by decide +kernel⟩
abbrev s_normal_form : Stmt := topS 18
theorem sc_normal_form : FnScope ["pattern"] ["pattern"] (defScope s_normal_form) := ⟨rfl, rfl, rfl, by decide +kernel, rfl, by decide +kernel, by decide +kernel⟩
abbrev s_is_assignment : Stmt := topS 20
theorem sc_is_assignment : FnScope ["pattern", "value", "word"] ["pattern", "value"] (defScope s_is_assignment) := ⟨rfl, rfl, rfl, by decide +kernel, rfl, by decide +kernel, by decide +kernel⟩
abbrev s_put_together : Stmt := topS 22
theorem sc_put_together : FnScope ["pattern", "assignment", "letters", "letter"] ["pattern", "assignment"] (defScope s_put_together) := ⟨rfl, rfl, rfl, by decide +kernel, rfl, by decide +kernel, by decide +kernel⟩
abbrev s_value_of : Stmt := topS 21
theorem sc_value_of : FnScope ["pattern", "assignment", "value"] ["pattern", "assignment"] (defScope s_value_of) := ⟨rfl, rfl, rfl, by decide +kernel, rfl, by decide +kernel, by decide +kernel⟩
abbrev s_law_open : Stmt := topS 25
theorem sc_law_open : FnScope ["script", "cells", "k", "cell"] ["script"] (defScope s_law_open) := ⟨rfl, rfl, rfl, by decide +kernel, rfl, by decide +kernel, by decide +kernel⟩
abbrev s_law_anew : Stmt := topS 26
theorem sc_law_anew : FnScope ["pen"] ["pen"] (defScope s_law_anew) := ⟨rfl, rfl, rfl, by decide +kernel, rfl, by decide +kernel, by decide +kernel⟩
abbrev s_law_spread : Stmt := topS 24
theorem sc_law_spread : FnScope ["cell", "at", "primes", "mixed", "one", "two", "three"] ["cell", "at"] (defScope s_law_spread) := ⟨rfl, rfl, rfl, by decide +kernel, rfl, by decide +kernel, by decide +kernel⟩
abbrev s_law_take : Stmt := topS 27
theorem sc_law_take : FnScope ["pen", "many", "at", "cell", "found"] ["pen", "many"] (defScope s_law_take) := ⟨rfl, rfl, rfl, by decide +kernel, rfl, by decide +kernel, by decide +kernel⟩
abbrev s_law_one : Stmt := topS 28
theorem sc_law_one : FnScope ["pen", "some"] ["pen", "some"] (defScope s_law_one) := ⟨rfl, rfl, rfl, by decide +kernel, rfl, by decide +kernel, by decide +kernel⟩
abbrev s_law_drawn : Stmt := topS 29
theorem sc_law_drawn : FnScope ["pen", "many", "found", "k"] ["pen", "many"] (defScope s_law_drawn) := ⟨rfl, rfl, rfl, by decide +kernel, rfl, by decide +kernel, by decide +kernel⟩
abbrev s_law_pattern : Stmt := topS 31
theorem sc_law_pattern : FnScope ["pen", "most", "many", "order", "letters", "place", "step"] ["pen", "most", "many"] (defScope s_law_pattern) := ⟨rfl, rfl, rfl, by decide +kernel, rfl, by decide +kernel, by decide +kernel⟩
abbrev s_law_word : Stmt := topS 30
theorem sc_law_word : FnScope ["pen", "size", "many", "step"] ["pen", "size", "many"] (defScope s_law_word) := ⟨rfl, rfl, rfl, by decide +kernel, rfl, by decide +kernel, by decide +kernel⟩
abbrev s_law_letters : Stmt := topS 32
theorem sc_law_letters : FnScope ["pattern", "found", "letter"] ["pattern"] (defScope s_law_letters) := ⟨rfl, rfl, rfl, by decide +kernel, rfl, by decide +kernel, by decide +kernel⟩
abbrev s_law_nested : Stmt := topS 34
theorem sc_law_nested : FnScope ["pen", "outer", "inner", "letters", "words", "letter"] ["pen"] (defScope s_law_nested) := ⟨rfl, rfl, rfl, by decide +kernel, rfl, by decide +kernel, by decide +kernel⟩
abbrev s_law : Stmt := topS 35
theorem sc_law : FnScope ["script", "pen", "turn", "pattern", "singles", "other", "equal", "outer", "inner", "letters", "words", "whole", "table", "values", "due", "letter", "own"] ["script"] (defScope s_law) := ⟨rfl, rfl, rfl, by decide +kernel, rfl, by decide +kernel, by decide +kernel⟩
structure Ad where
  (f_has_only : Addr) (d_has_only : FuncData)
  (f_is_word : Addr) (d_is_word : FuncData)
  (f_distinct : Addr) (d_distinct : FuncData)
  (f_is_pattern : Addr) (d_is_pattern : FuncData)
  (f_need_pattern : Addr) (d_need_pattern : FuncData)
  (f_letters_of : Addr) (d_letters_of : FuncData)
  (f_in_normal_form : Addr) (d_in_normal_form : FuncData)
  (f_normal_form : Addr) (d_normal_form : FuncData)
  (f_is_assignment : Addr) (d_is_assignment : FuncData)
  (f_put_together : Addr) (d_put_together : FuncData)
  (f_value_of : Addr) (d_value_of : FuncData)
  (f_law_open : Addr) (d_law_open : FuncData)
  (f_law_anew : Addr) (d_law_anew : FuncData)
  (f_law_spread : Addr) (d_law_spread : FuncData)
  (f_law_take : Addr) (d_law_take : FuncData)
  (f_law_one : Addr) (d_law_one : FuncData)
  (f_law_drawn : Addr) (d_law_drawn : FuncData)
  (f_law_pattern : Addr) (d_law_pattern : FuncData)
  (f_law_word : Addr) (d_law_word : FuncData)
  (f_law_letters : Addr) (d_law_letters : FuncData)
  (f_law_nested : Addr) (d_law_nested : FuncData)
  (f_law : Addr) (d_law : FuncData)
  (t_CAPITALS : Tok)
  (t_LONGEST_PATTERN : Tok)
  (t_LONGEST_WORD : Tok)
  (t_MOST_LETTERS : Tok)
  (t_SMALL : Tok)
/-- what the top has written -/
structure Txt (K : PySem.W.Frag) (mg : Str → Option Value) (A : Ad) : Prop where
  F_has_only : Fun K "has_only" "has_only" s_has_only A.f_has_only A.d_has_only
  g_has_only : mg "has_only" = some (.ref A.f_has_only)
  b_has_only : Binds K A.d_has_only ["text", "letters"] []
  F_is_word : Fun K "is_word" "is_word" s_is_word A.f_is_word A.d_is_word
  g_is_word : mg "is_word" = some (.ref A.f_is_word)
  b_is_word : Binds K A.d_is_word ["value"] []
  F_distinct : Fun K "distinct" "distinct" s_distinct A.f_distinct A.d_distinct
  g_distinct : mg "distinct" = some (.ref A.f_distinct)
  b_distinct : Binds K A.d_distinct ["text"] []
  F_is_pattern : Fun K "is_pattern" "is_pattern" s_is_pattern A.f_is_pattern A.d_is_pattern
  g_is_pattern : mg "is_pattern" = some (.ref A.f_is_pattern)
  b_is_pattern : Binds K A.d_is_pattern ["value"] []
  F_need_pattern : Fun K "need_pattern" "need_pattern" s_need_pattern A.f_need_pattern A.d_need_pattern
  g_need_pattern : mg "need_pattern" = some (.ref A.f_need_pattern)
  b_need_pattern : Binds K A.d_need_pattern ["value"] []
  F_letters_of : Fun K "letters_of" "letters_of" s_letters_of A.f_letters_of A.d_letters_of
  g_letters_of : mg "letters_of" = some (.ref A.f_letters_of)
  b_letters_of : Binds K A.d_letters_of ["pattern"] []
  F_in_normal_form : Fun K "in_normal_form" "in_normal_form" s_in_normal_form A.f_in_normal_form A.d_in_normal_form
  g_in_normal_form : mg "in_normal_form" = some (.ref A.f_in_normal_form)
  b_in_normal_form : Binds K A.d_in_normal_form ["pattern"] []
  F_normal_form : Fun K "normal_form" "normal_form" s_normal_form A.f_normal_form A.d_normal_form
  g_normal_form : mg "normal_form" = some (.ref A.f_normal_form)
  b_normal_form : Binds K A.d_normal_form ["pattern"] []
  F_is_assignment : Fun K "is_assignment" "is_assignment" s_is_assignment A.f_is_assignment A.d_is_assignment
  g_is_assignment : mg "is_assignment" = some (.ref A.f_is_assignment)
  b_is_assignment : Binds K A.d_is_assignment ["pattern", "value"] []
  F_put_together : Fun K "put_together" "put_together" s_put_together A.f_put_together A.d_put_together
  g_put_together : mg "put_together" = some (.ref A.f_put_together)
  b_put_together : Binds K A.d_put_together ["pattern", "assignment"] []
  F_value_of : Fun K "value_of" "value_of" s_value_of A.f_value_of A.d_value_of
  g_value_of : mg "value_of" = some (.ref A.f_value_of)
  b_value_of : Binds K A.d_value_of ["pattern", "assignment"] []
  F_law_open : Fun K "_law_open" "_law_open" s_law_open A.f_law_open A.d_law_open
  g_law_open : mg "_law_open" = some (.ref A.f_law_open)
  b_law_open : Binds K A.d_law_open ["script"] []
  F_law_anew : Fun K "_law_anew" "_law_anew" s_law_anew A.f_law_anew A.d_law_anew
  g_law_anew : mg "_law_anew" = some (.ref A.f_law_anew)
  b_law_anew : Binds K A.d_law_anew ["pen"] []
  F_law_spread : Fun K "_law_spread" "_law_spread" s_law_spread A.f_law_spread A.d_law_spread
  g_law_spread : mg "_law_spread" = some (.ref A.f_law_spread)
  b_law_spread : Binds K A.d_law_spread ["cell", "at"] []
  F_law_take : Fun K "_law_take" "_law_take" s_law_take A.f_law_take A.d_law_take
  g_law_take : mg "_law_take" = some (.ref A.f_law_take)
  b_law_take : Binds K A.d_law_take ["pen", "many"] []
  F_law_one : Fun K "_law_one" "_law_one" s_law_one A.f_law_one A.d_law_one
  g_law_one : mg "_law_one" = some (.ref A.f_law_one)
  b_law_one : Binds K A.d_law_one ["pen", "some"] []
  F_law_drawn : Fun K "_law_drawn" "_law_drawn" s_law_drawn A.f_law_drawn A.d_law_drawn
  g_law_drawn : mg "_law_drawn" = some (.ref A.f_law_drawn)
  b_law_drawn : Binds K A.d_law_drawn ["pen", "many"] []
  F_law_pattern : Fun K "_law_pattern" "_law_pattern" s_law_pattern A.f_law_pattern A.d_law_pattern
  g_law_pattern : mg "_law_pattern" = some (.ref A.f_law_pattern)
  b_law_pattern : Binds K A.d_law_pattern ["pen", "most", "many"] []
  F_law_word : Fun K "_law_word" "_law_word" s_law_word A.f_law_word A.d_law_word
  g_law_word : mg "_law_word" = some (.ref A.f_law_word)
  b_law_word : Binds K A.d_law_word ["pen", "size", "many"] []
  F_law_letters : Fun K "_law_letters" "_law_letters" s_law_letters A.f_law_letters A.d_law_letters
  g_law_letters : mg "_law_letters" = some (.ref A.f_law_letters)
  b_law_letters : Binds K A.d_law_letters ["pattern"] []
  F_law_nested : Fun K "_law_nested" "_law_nested" s_law_nested A.f_law_nested A.d_law_nested
  g_law_nested : mg "_law_nested" = some (.ref A.f_law_nested)
  b_law_nested : Binds K A.d_law_nested ["pen"] []
  F_law : Fun K "law" "law" s_law A.f_law A.d_law
  g_law : mg "law" = some (.ref A.f_law)
  b_law : Binds K A.d_law ["script"] []
  g_CAPITALS : mg "CAPITALS" = some (.str "ABCDEFGHIJKLMNOPQRSTUVWXYZ" A.t_CAPITALS)
  g_LONGEST_PATTERN : mg "LONGEST_PATTERN" = some (.int 20 A.t_LONGEST_PATTERN)
  g_LONGEST_WORD : mg "LONGEST_WORD" = some (.int 200 A.t_LONGEST_WORD)
  g_MOST_LETTERS : mg "MOST_LETTERS" = some (.int 7 A.t_MOST_LETTERS)
  g_SMALL : mg "SMALL" = some (.str "abcdefghijklmnopqrstuvwxyz" A.t_SMALL)
  dict : mg "dict" = none
  enumerate : mg "enumerate" = none
  int : mg "int" = none
  isinstance : mg "isinstance" = none
  len : mg "len" = none
  list : mg "list" = none
  range : mg "range" = none
  str : mg "str" = none
  tuple : mg "tuple" = none
  zip : mg "zip" = none
def spTop (K : PySem.W.Frag) : Sp := fun vs H Q _ => ∃ (a : Addr) (ns : List Int), vs = [.ref a] ∧ SqL K H a (ns.map V.int) ∧ ns.length ≤ 63 ∧ ∀ H', Q (.bl true) H'

section
variable {P : Program} {w : World} {K : PySem.W.Frag} {mg : Str → Option Value} {base : Heap} {A : Ad}

/-! ### has_only -/
def sp_has_only : Sp := fun vs H Q _ => ∃ l m : List Nat, vs = [.str (S l), .str (S m)] ∧ Q (.bl (allIn l m)) H
theorem ok_has_only (T : Txt K mg A) : FnOk P w K mg base CX0 1 A.f_has_only A.d_has_only ["text", "letters"] sp_has_only := by
  refine T.F_has_only.ok sc_has_only (fun vs H Q E h => ?_) (fun cdv A' outer s H vs Q E hr h => ?_)
  · obtain ⟨l, m, rfl, _⟩ := h
    rfl
  · obtain ⟨l, m, rfl, k⟩ := h
    refine ⟨_, (pss_cons (ps_for PassesOwn.never rfl (pi_str (pv 0)) (pg_name (i := 2) sc_has_only.nd rfl (by first | exact Or.inl rfl | exact Or.inr rfl)) (pss_one (ps_if (pt_cmpR op_notIn_sign (pv 2) (pv 1) rfl) (pss_one (ps_ret pe_bl)) pss_nil)))
  (pss_one (ps_ret pe_bl))), ?_⟩
    refine ⟨_, rfl, S l, rfl, for_it walk_S (fun i σ H' => ∃ y, σ = [some (.str (S l)), some (.str (S m)), y] ∧ H' = H ∧ ∀ c ∈ l.take i, c ∈ m) ⟨none, rfl, rfl, fun _ h => nomatch h⟩ (fun _ _ _ _ _ => trivial) ?_ ?_⟩
    · rintro i x σ H2 H3 hi ⟨y, rfl, rfl, hm⟩ ⟨rfl, c, hc, rfl⟩
      refine ⟨_, rfl, _, rfl, c, S m, rfl, rfl, _, rfl, ?_⟩
      by_cases hcm : c ∈ m
      · rw [show decide (c ∈ (S m).cps.toList) = true from decide_eq_true hcm]
        refine iteF ⟨_, rfl, rfl, fun d hd => ?_⟩
        rw [List.take_add_one, hc] at hd
        rcases List.mem_append.mp hd with h | h
        · exact hm d h
        · rw [Option.toList_some, List.mem_singleton] at h
          subst h; exact hcm
      · rw [show decide (c ∈ (S m).cps.toList) = false from decide_eq_false hcm]
        refine iteT ?_
        have e : allIn l m = false := by
          cases h : allIn l m with
          | false => rfl
          | true => exact absurd (allIn_iff.mp h c (List.mem_of_getElem? hc)) hcm
        rw [e] at k
        exact k
    · rintro σ H2 ⟨y, rfl, rfl, hm⟩
      rw [List.take_length] at hm
      have e : allIn l m = true := allIn_iff.mpr hm
      rw [e] at k
      exact k

/-! ### is_word, of any value -/
def sp_is_word (K : PySem.W.Frag) : Sp := fun vs H Q _ => ∃ x d, vs = [x] ∧ Dp K H x d ∧ (strOf d).length ≤ 200000 ∧ Q (.bl (wordD d)) H
theorem ok_is_word (T : Txt K mg A) : FnOk P w K mg base CX0 2 A.f_is_word A.d_is_word ["value"] (sp_is_word K) := by
  refine T.F_is_word.ok sc_is_word (fun vs H Q E h => ?_) (fun cdv A' outer s H vs Q E hr h => ?_)
  · obtain ⟨x, d, rfl, _⟩ := h
    rfl
  · obtain ⟨x, d, rfl, hd, hl, k⟩ := h
    refine ⟨_, (pss_one (ps_ret (pe_and (pe_callB call_isi (by rfl) T.isinstance PyProof.Rows.boot_isinstance (pa_cons (pv 0) (pa_cons (pe_bltn (v := .ty "str") (by rfl) T.str (by decide +kernel) rfl) pa_nil))) (pe_and (pe_cmpR op_le (pe_callB call_len_str (by rfl) T.len PySem.boot_len (pa_cons (pv 0) pa_nil)) (pe_glob (v := .int 200) (by rfl) T.g_LONGEST_WORD ⟨_, rfl⟩) (nomark _)) (pe_one (pe_call (ok_has_only T) hr (by rfl) T.g_has_only T.F_has_only.kp T.b_has_only .nil pass0 (pa_cons (pv 0) (pa_cons (pe_glob (v := .str "abcdefghijklmnopqrstuvwxyz") (by rfl) T.g_SMALL ⟨_, rfl⟩) pa_nil)))))))), ?_⟩
    refine ⟨_, rfl, _, _, _, _, _, rfl, .ty _, dp_ty hd, kit_str d, _, rfl, ?_⟩
    cases hd with
    | non => exact iteF k
    | bl b => exact iteF k
    | int i => exact iteF k
    | lst h1 h2 => exact iteF k
    | tup h1 h2 => exact iteF k
    | str z =>
      obtain ⟨l, rfl⟩ : ∃ l, z = S l := ⟨z.cps.toList, rfl⟩
      replace hl : l.length ≤ 200000 := hl
      have k : Q (.bl (decide (l.length ≤ 200) && allIn l smallL)) H := k
      have hsz : sizeLine = 16777216 := sizeLine_eq
      refine iteT ⟨_, rfl, S l, rfl, by rw [len_S]; omega, _, _, rfl, rfl, _, rfl, ?_⟩
      rw [len_S]
      by_cases h1 : l.length ≤ 200
      · rw [decide_eq_true h1] at k
        rw [show decide ((l.length : Int) ≤ 200) = true from decide_eq_true (by omega)]
        exact iteT ⟨_, rfl, l, smallL, by rw [smallS]; rfl, k⟩
      · rw [decide_eq_false h1] at k
        rw [show decide ((l.length : Int) ≤ 200) = false from decide_eq_false (by omega)]
        exact iteF k

/-! ### distinct -/
def sp_distinct : Sp := fun vs H Q _ => ∃ l : List Nat, vs = [.str (S l)] ∧ l.length ≤ 200000 ∧ Q (.str (S (dist l))) H
theorem ok_distinct (T : Txt K mg A) : FnOk P w K mg base CX0 1 A.f_distinct A.d_distinct ["text"] sp_distinct := by
  refine T.F_distinct.ok sc_distinct (fun vs H Q E h => ?_) (fun cdv A' outer s H vs Q E hr h => ?_)
  · obtain ⟨l, rfl, _⟩ := h
    rfl
  · obtain ⟨l, rfl, hl, k⟩ := h
    refine ⟨_, (pss_cons (ps_set (i := 1) sc_distinct.nd rfl (by first | exact Or.inl rfl | exact Or.inr rfl) pe_str)
  (pss_cons (ps_for PassesOwn.never rfl (pi_str (pv 0)) (pg_name (i := 2) sc_distinct.nd rfl (by first | exact Or.inl rfl | exact Or.inr rfl)) (pss_one (ps_if (pt_cmpR op_notIn_sign (pv 2) (pv 1) rfl) (pss_one (ps_aug (i := 1) sc_distinct.nd rfl (by first | exact Or.inl rfl | exact Or.inr rfl) (pv 2) ip_addS)) pss_nil)))
  (pss_one (ps_ret (pv 1))))), ?_⟩
    refine ⟨_, rfl, S l, rfl, for_it walk_S (fun i σ H' => ∃ y, σ = [some (.str (S l)), some (.str (S (dist (l.take i)))), y] ∧ H' = H) ⟨none, rfl, rfl⟩ (fun _ _ _ _ _ => trivial) ?_ ?_⟩
    · rintro i x σ H2 H3 hi ⟨y, rfl, rfl⟩ ⟨rfl, c, hc, rfl⟩
      refine ⟨_, rfl, _, rfl, c, S (dist (l.take i)), rfl, rfl, _, rfl, ?_⟩
      have e : dist (l.take (i + 1)) = if c ∈ dist (l.take i) then dist (l.take i) else dist (l.take i) ++ [c] := by
        rw [List.take_add_one, hc, Option.toList_some, dist_snoc]
      by_cases hcm : c ∈ dist (l.take i)
      · rw [show decide (c ∈ (S (dist (l.take i))).cps.toList) = true from decide_eq_true hcm]
        rw [if_pos hcm] at e
        refine iteF ⟨some (.str (S [c])), ?_, rfl⟩
        rw [e]
        rfl
      · rw [show decide (c ∈ (S (dist (l.take i))).cps.toList) = false from decide_eq_false hcm]
        rw [if_neg hcm] at e
        refine iteT ⟨_, rfl, _, rfl, _, _, rfl, rfl, ?_, some (.str (S [c])), ?_, rfl⟩
        · rw [len_S, len_S, sizeLine_eq]
          have := dist_len (l.take i)
          rw [List.length_take] at this
          show _ + 1 ≤ _
          omega
        · rw [e, SX.S_cat]
          rfl
    · rintro σ H2 ⟨y, rfl, rfl⟩
      rw [List.take_length]
      exact ⟨_, rfl, k⟩

/-! ### is_pattern, of a text -/
def sp_is_pattern : Sp := fun vs H Q _ => ∃ l : List Nat, vs = [.str (S l)] ∧ l.length ≤ 200000 ∧ Q (.bl (patB l)) H
theorem ok_is_pattern (T : Txt K mg A) : FnOk P w K mg base CX0 2 A.f_is_pattern A.d_is_pattern ["value"] sp_is_pattern := by
  refine T.F_is_pattern.ok sc_is_pattern (fun vs H Q E h => ?_) (fun cdv A' outer s H vs Q E hr h => ?_)
  · obtain ⟨l, rfl, _⟩ := h
    rfl
  · obtain ⟨l, rfl, hl, k⟩ := h
    refine ⟨_, (pss_cons (ps_if (PW.pt (pw_or (pt_not (pt_val (pe_callB call_isi (by rfl) T.isinstance PyProof.Rows.boot_isinstance (pa_cons (pv 0) (pa_cons (pe_bltn (v := .ty "str") (by rfl) T.str (by decide +kernel) rfl) pa_nil))))) (pw_or1 (pt_not (pt_chain op_le op_le pe_int (pe_callB call_len_str (by rfl) T.len PySem.boot_len (pa_cons (pv 0) pa_nil)) (pe_glob (v := .int 20) (by rfl) T.g_LONGEST_PATTERN ⟨_, rfl⟩)))))) (pss_one (ps_ret pe_bl)) pss_nil)
  (pss_one (ps_ret (pe_and (pe_call (ok_has_only T) hr (by rfl) T.g_has_only T.F_has_only.kp T.b_has_only .nil pass0 (pa_cons (pv 0) (pa_cons (pe_glob (v := .str "ABCDEFGHIJKLMNOPQRSTUVWXYZ") (by rfl) T.g_CAPITALS ⟨_, rfl⟩) pa_nil))) (pe_one (pe_cmpR op_le (pe_callB call_len_str (by rfl) T.len PySem.boot_len (pa_cons (pe_call (ok_distinct T) hr (by rfl) T.g_distinct T.F_distinct.kp T.b_distinct .nil pass0 (pa_cons (pv 0) pa_nil)) pa_nil)) (pe_glob (v := .int 7) (by rfl) T.g_MOST_LETTERS ⟨_, rfl⟩) (nomark _))))))), ?_⟩
    have hsz : sizeLine = 16777216 := sizeLine_eq
    have hz : (S l).length ≤ sizeLine := by rw [len_S]; omega
    unfold patB at k
    refine ⟨_, rfl, _, _, _, _, true, rfl, .ty _, .base (.str _), kit_ty (by decide +kernel), _, rfl, iteF ?_⟩
    refine ⟨_, rfl, S l, rfl, hz, _, _, rfl, rfl, _, rfl, ?_⟩
    rw [len_S]
    by_cases h1 : 1 ≤ l.length
    · rw [show decide ((1 : Int) ≤ (l.length : Int)) = true from decide_eq_true (by omega)]
      rw [decide_eq_true h1] at k
      refine iteT ⟨_, _, rfl, rfl, _, rfl, ?_⟩
      by_cases h2 : l.length ≤ 20
      · rw [show decide ((l.length : Int) ≤ 20) = true from decide_eq_true (by omega)]
        rw [decide_eq_true h2] at k
        refine iteF ?_
        refine ⟨_, rfl, l, capL, by rw [capS]; rfl, _, rfl, ?_⟩
        cases e : allIn l capL with
        | false =>
          rw [e] at k
          exact iteF k
        | true =>
          rw [e] at k
          refine iteT ⟨_, rfl, l, rfl, hl, S (dist l), rfl, ?_, _, _, rfl, rfl, ?_⟩
          · rw [len_S]
            have := dist_len l
            omega
          · show Q (.bl (decide (((S (dist l)).length : Int) ≤ 7))) H
            rw [len_S, show decide (((dist l).length : Int) ≤ 7) = decide ((dist l).length ≤ 7) from decide_eq_decide.mpr (by omega)]
            exact k
      · rw [show decide ((l.length : Int) ≤ 20) = false from decide_eq_false (by omega)]
        rw [decide_eq_false h2] at k
        exact iteT k
    · rw [show decide ((1 : Int) ≤ (l.length : Int)) = false from decide_eq_false (by omega)]
      rw [decide_eq_false h1] at k
      exact iteF ⟨_, rfl, iteT k⟩

/-! ### need_pattern, of a pattern -/
def sp_need_pattern : Sp := fun vs H Q _ => ∃ l : List Nat, vs = [.str (S l)] ∧ Pat l ∧ Q .non H
theorem ok_need_pattern (T : Txt K mg A) : FnOk P w K mg base CX0 3 A.f_need_pattern A.d_need_pattern ["value"] sp_need_pattern := by
  refine T.F_need_pattern.ok sc_need_pattern (fun vs H Q E h => ?_) (fun cdv A' outer s H vs Q E hr h => ?_)
  · obtain ⟨l, rfl, _⟩ := h
    rfl
  · obtain ⟨l, rfl, hp, k⟩ := h
    refine ⟨_, (pss_one (ps_if (pt_not (pt_val (pe_call (ok_is_pattern T) hr (by rfl) T.g_is_pattern T.F_is_pattern.kp T.b_is_pattern .nil pass0 (pa_cons (pv 0) pa_nil)))) (pss_one ps_never) pss_nil)), ?_⟩
    have := hp.hi
    refine ⟨_, rfl, l, rfl, by omega, _, rfl, ?_⟩
    rw [pat_iff.mpr hp]
    exact iteF k

/-! ### letters_of, of a pattern -/
def sp_letters_of : Sp := fun vs H Q _ => ∃ l : List Nat, vs = [.str (S l)] ∧ Pat l ∧ Q (.str (S (dist l))) H
theorem ok_letters_of (T : Txt K mg A) : FnOk P w K mg base CX0 4 A.f_letters_of A.d_letters_of ["pattern"] sp_letters_of := by
  refine T.F_letters_of.ok sc_letters_of (fun vs H Q E h => ?_) (fun cdv A' outer s H vs Q E hr h => ?_)
  · obtain ⟨l, rfl, _⟩ := h
    rfl
  · obtain ⟨l, rfl, hp, k⟩ := h
    refine ⟨_, (pss_cons (ps_expr (pe_call (ok_need_pattern T) hr (by rfl) T.g_need_pattern T.F_need_pattern.kp T.b_need_pattern .nil pass0 (pa_cons (pv 0) pa_nil)))
  (pss_one (ps_ret (pe_call (ok_distinct T) (hr.mono (by decide)) (by rfl) T.g_distinct T.F_distinct.kp T.b_distinct .nil pass0 (pa_cons (pv 0) pa_nil))))), ?_⟩
    have := hp.hi
    exact ⟨_, rfl, l, rfl, hp, _, rfl, l, rfl, by omega, k⟩

/-! ### in_normal_form -/
def sp_in_normal_form : Sp := fun vs H Q _ => ∃ l : List Nat, vs = [.str (S l)] ∧ l.length ≤ 20 ∧ (dist l).length ≤ 7 ∧ ∀ H', Same H H' → Q (.str (S (nf l))) H'
theorem ok_in_normal_form (T : Txt K mg A) : FnOk P w K mg base CX0 2 A.f_in_normal_form A.d_in_normal_form ["pattern"] sp_in_normal_form := by
  refine T.F_in_normal_form.ok sc_in_normal_form (fun vs H Q E h => ?_) (fun cdv A' outer s H vs Q E hr h => ?_)
  · obtain ⟨l, rfl, _⟩ := h
    rfl
  · obtain ⟨l, rfl, h20, h7, k⟩ := h
    refine ⟨_, (pss_cons (ps_set (i := 1) sc_in_normal_form.nd rfl (by first | exact Or.inl rfl | exact Or.inr rfl) (pe_call (ok_distinct T) hr (by rfl) T.g_distinct T.F_distinct.kp T.b_distinct .nil pass0 (pa_cons (pv 0) pa_nil)))
  (pss_one (ps_ret (pe_join pe_str (pe_lc (own := [("letter", 2)]) (g := gName 2) (tt := tYes) (by rfl) sc_in_normal_form.nd (pi_str (pv 0)) (blkOk_by (own := [("letter", 2)]) (N := ["pattern", "letters", "letter"]) (sc := defScope s_in_normal_form) (by decide +kernel)) (fun _ _ _ _ _ => (pg_name (i := 2) sc_in_normal_form.nd rfl (by first | exact Or.inl rfl | exact Or.inr rfl))) (fun _ _ _ _ _ => pts_nil) (fun _ _ _ _ _ => (pe_ix ix_str (pe_glob (v := .str "ABCDEFGHIJKLMNOPQRSTUVWXYZ") (by rfl) T.g_CAPITALS ⟨_, rfl⟩) (pe_idx (pv 1) (pv 2)) (fun _ _ => rfl)))))))), ?_⟩
    refine ⟨_, rfl, l, rfl, by omega, ⟨_, rfl⟩, _, rfl, S l, rfl, fun D hD => ?_⟩
    refine lc_map l (fun c => .str (S [capL[(dist l).idxOf c]?.getD 0])) walk_S hD (by omega) (fun _ _ => trivial) ?_ ?_
    · rintro i c x H2 H3 R hc s2 ⟨rfl, c', hc', rfl⟩ hR
      obtain rfl : c = c' := Option.some.inj (hc.symm.trans hc')
      have hm : c ∈ l := List.mem_of_getElem? hc
      have hlt := idx_dist_lt hm
      have hcap : (dist l).idxOf c < capL.length := by show _ < 26; omega
      refine ⟨rfl, _, rfl, ⟨_, rfl⟩, _, rfl, dist l, c, rfl, rfl, mem_dist.mpr hm, _, _, capL[(dist l).idxOf c], rfl, rfl, by decide +kernel, ?_, ?_⟩
      · rw [capS]
        exact atI_nat (List.getElem?_eq_getElem hcap)
      · have q := hR H3 (Same.refl H3)
        rw [List.getElem?_eq_getElem hcap] at q
        exact q
    · intro H2 s2 g2
      rw [map_sg] at g2
      refine ⟨S [], D, _, rfl, rfl, .inl (SqL.of g2), join_ok1 _ (by omega), ?_⟩
      rw [join0, flat1]
      exact k H2 s2

/-! ### normal_form, of a pattern -/
def sp_normal_form : Sp := fun vs H Q _ => ∃ l : List Nat, vs = [.str (S l)] ∧ Pat l ∧ ∀ H', Same H H' → Q (.str (S (nf l))) H'
theorem ok_normal_form (T : Txt K mg A) : FnOk P w K mg base CX0 4 A.f_normal_form A.d_normal_form ["pattern"] sp_normal_form := by
  refine T.F_normal_form.ok sc_normal_form (fun vs H Q E h => ?_) (fun cdv A' outer s H vs Q E hr h => ?_)
  · obtain ⟨l, rfl, _⟩ := h
    rfl
  · obtain ⟨l, rfl, hp, k⟩ := h
    refine ⟨_, (pss_cons (ps_expr (pe_call (ok_need_pattern T) hr (by rfl) T.g_need_pattern T.F_need_pattern.kp T.b_need_pattern .nil pass0 (pa_cons (pv 0) pa_nil)))
  (pss_one (ps_ret (pe_call (ok_in_normal_form T) (hr.mono (by decide)) (by rfl) T.g_in_normal_form T.F_in_normal_form.kp T.b_in_normal_form .nil pass0 (pa_cons (pv 0) pa_nil))))), ?_⟩
    exact ⟨_, rfl, l, rfl, hp, _, rfl, l, rfl, hp.hi, hp.few, k⟩

/-! ### is_assignment -/
def sp_is_assignment (K : PySem.W.Frag) : Sp := fun vs H Q _ => ∃ (l : List Nat) (x : V) (d : PyData) (D : Nat), vs = [.str (S l), x] ∧ l.length ≤ 200 ∧ Dp K H x d ∧ Lite D 200000 d ∧ D ≤ 60 ∧ Q (.bl (asgD l d)) H
theorem ok_is_assignment (T : Txt K mg A) : FnOk P w K mg base CX0 3 A.f_is_assignment A.d_is_assignment ["pattern", "value"] (sp_is_assignment K) := by
  refine T.F_is_assignment.ok sc_is_assignment (fun vs H Q E h => ?_) (fun cdv A' outer s H vs Q E hr h => ?_)
  · obtain ⟨l, x, d, D, rfl, _⟩ := h
    rfl
  · obtain ⟨l, x, d, D, rfl, hl, hd, hL, hD, k⟩ := h
    refine ⟨_, (pss_cons (ps_if (PW.pt (pw_or (pt_not (pt_val (pe_callB call_isi (by rfl) T.isinstance PyProof.Rows.boot_isinstance (pa_cons (pv 1) (pa_cons (pe_bltn (v := .ty "tuple") (by rfl) T.tuple (by decide +kernel) rfl) pa_nil))))) (pw_or1 (pt_cmpR op_ne (pe_callB (call_lenK (K := K)) (by rfl) T.len PySem.boot_len (pa_cons (pv 1) pa_nil)) (pe_callB call_len_str (by rfl) T.len PySem.boot_len (pa_cons (pe_call (ok_distinct T) (hr.mono (by decide)) (by rfl) T.g_distinct T.F_distinct.kp T.b_distinct .nil pass0 (pa_cons (pv 0) pa_nil)) pa_nil)) (nomark _))))) (pss_one (ps_ret pe_bl)) pss_nil)
  (pss_cons (ps_for PassesOwn.never rfl (pi_tup (pv 1)) (pg_name (i := 2) sc_is_assignment.nd rfl (by first | exact Or.inl rfl | exact Or.inr rfl)) (pss_one (ps_if (PW.pt (pw_or (pt_not (pt_val (pe_call (ok_is_word T) hr (by rfl) T.g_is_word T.F_is_word.kp T.b_is_word .nil pass0 (pa_cons (pv 2) pa_nil)))) (pw_or1 (pt_cmpR op_eq (pv 2) pe_str (nomark _))))) (pss_one (ps_ret pe_bl)) pss_nil)))
  (pss_one (ps_ret pe_bl)))), ?_⟩
    refine ⟨_, rfl, _, _, _, _, _, rfl, .ty _, dp_ty hd, kit_tup d, _, rfl, ?_⟩
    cases hd with
    | non => exact iteT k
    | bl b => exact iteT k
    | int i => exact iteT k
    | str z => exact iteT k
    | lst h1 h2 => exact iteT k
    | @tup a xs ds h1 h2 =>
      have hn := dpAll_len h2
      have k : Q (.bl (decide (ds.length = (dist l).length) && ds.all fun d => wordD d && decide (strOf d ≠ []))) H := k
      have hsz : sizeLine = 16777216 := sizeLine_eq
      have hdl := dist_len l
      refine iteF ⟨_, rfl, a, xs, rfl, .inr h1, _, rfl, l, rfl, by omega, S (dist l), rfl, by rw [len_S]; omega, rfl, _, rfl, ?_⟩
      rw [len_S, hn]
      by_cases e : ds.length = (dist l).length
      · rw [show decide (V.int (ds.length : Int) = V.int ((dist l).length : Int)) = true from decide_eq_true (by rw [e])]
        rw [decide_eq_true e, Bool.true_and] at k
        refine iteF ⟨_, rfl, a, rfl, ⟨_, h1⟩, for_it (walk_tup (xs := xs)) (fun i σ H' => ∃ y, σ = [some (.str (S l)), some (.ref a), y] ∧ H' = H ∧ ∀ d ∈ ds.take i, (wordD d && decide (strOf d ≠ [])) = true) ⟨none, rfl, rfl, fun _ h => nomatch h⟩ (fun _ _ _ _ h => ?_) ?_ ?_⟩
        · obtain ⟨_, _, rfl, _⟩ := h
          exact h1
        · rintro i x σ H2 H3 hi ⟨y, rfl, rfl, hm⟩ ⟨rfl, hx⟩
          obtain ⟨d, hdi, hdx⟩ := dpAll_at h2 hx
          have hmem := List.mem_of_getElem? hdi
          have hLd : (strOf d).length ≤ 200000 := by
            cases hdx with
            | str z =>
              have hw := hL.w
              have : ∀ {es : List PyData}, PyData.str z ∈ es → z.cps.size ≤ PyData.weightAll es := fun {es} => by
                induction es with
                | nil => exact fun h => nomatch h
                | cons b r ih =>
                  intro h
                  rw [PyData.weightAll]
                  rcases List.mem_cons.mp h with rfl | h
                  · rw [PyData.weight]; omega
                  · have := ih h; omega
              have h3 := this hmem
              rw [PyData.weight] at hw
              show z.cps.toList.length ≤ 200000
              rw [Array.length_toList]
              omega
            | non => exact Nat.zero_le _
            | bl b => exact Nat.zero_le _
            | int i => exact Nat.zero_le _
            | lst _ _ => exact Nat.zero_le _
            | tup _ _ => exact Nat.zero_le _
          refine ⟨_, rfl, _, d, rfl, hdx, hLd, _, rfl, ?_⟩
          have fail : (wordD d && decide (strOf d ≠ [])) = false → Q (.bl false) H3 := fun e => by
            rw [show (ds.all fun d => wordD d && decide (strOf d ≠ [])) = false from by
              cases q : ds.all fun d => wordD d && decide (strOf d ≠ []) with
              | false => rfl
              | true => rw [List.all_eq_true.mp q d hmem] at e; cases e] at k
            exact k
          cases ew : wordD d with
          | false => exact iteT (fail (by rw [ew]; rfl))
          | true =>
            refine iteF ⟨_, rfl, ?_⟩
            cases hdx with
            | str z =>
              obtain ⟨w, rfl⟩ : ∃ w, z = S w := ⟨z.cps.toList, rfl⟩
              refine ⟨rfl, _, rfl, ?_⟩
              by_cases e0 : w = []
              · subst e0
                exact iteT (fail (by rw [ew]; rfl))
              · rw [show decide (V.str (S w) = V.str ("" : String)) = false from decide_eq_false fun z => e0 (SX.S_inj (V.str.inj z))]
                refine iteF ⟨_, rfl, rfl, fun x hx => ?_⟩
                rw [List.take_add_one, hdi] at hx
                rcases List.mem_append.mp hx with h | h
                · exact hm x h
                · rw [Option.toList_some, List.mem_singleton] at h
                  subst h
                  rw [ew]
                  exact decide_eq_true e0
            | non => cases ew
            | bl b => cases ew
            | int i => cases ew
            | lst _ _ => cases ew
            | tup _ _ => cases ew
        · rintro σ H2 ⟨y, rfl, rfl, hm⟩
          have hm' : ∀ d ∈ ds, (wordD d && decide (strOf d ≠ [])) = true := by
            have := hm
            rw [hn, List.take_length] at this
            exact this
          rw [List.all_eq_true.mpr hm'] at k
          exact k
      · rw [show decide (V.int (ds.length : Int) = V.int ((dist l).length : Int)) = false from decide_eq_false fun z => e (by have := V.int.inj z; omega)]
        rw [decide_eq_false e] at k
        exact iteT k

/-! ### put_together -/
theorem valL_len {l : List Nat} {ws : List (List Nat)} (hw : ∀ w ∈ ws, w.length ≤ 200) : (valL l ws).length ≤ l.length * 200 := by
  unfold valL
  rw [List.length_flatten]
  refine Nat.le_trans (sum_le (b := 200) fun x hx => ?_) ?_
  · obtain ⟨y, hy, rfl⟩ := List.mem_map.mp hx
    obtain ⟨c, hc, rfl⟩ := List.mem_map.mp hy
    cases h : ws[(dist l).idxOf c]? with
    | none => exact Nat.zero_le _
    | some w => exact hw w (List.mem_of_getElem? h)
  · rw [List.length_map, List.length_map]
    exact Nat.le_refl _
def sp_put_together (K : PySem.W.Frag) : Sp := fun vs H Q _ => ∃ (l : List Nat) (a : Addr) (ws : List (List Nat)), vs = [.str (S l), .ref a] ∧ l.length ≤ 100 ∧ SqT K H a (ws.map vW) ∧ ws.length = (dist l).length ∧ (∀ w ∈ ws, w.length ≤ 200) ∧
  ∀ H', Same H H' → Q (.str (S (valL l ws))) H'
theorem ok_put_together (T : Txt K mg A) : FnOk P w K mg base CX0 2 A.f_put_together A.d_put_together ["pattern", "assignment"] (sp_put_together K) := by
  refine T.F_put_together.ok sc_put_together (fun vs H Q E h => ?_) (fun cdv A' outer s H vs Q E hr h => ?_)
  · obtain ⟨l, a, ws, rfl, _⟩ := h
    rfl
  · obtain ⟨l, a, ws, rfl, hl, h1, hwl, hws, k⟩ := h
    refine ⟨_, (pss_cons (ps_set (i := 2) sc_put_together.nd rfl (by first | exact Or.inl rfl | exact Or.inr rfl) (pe_call (ok_distinct T) hr (by rfl) T.g_distinct T.F_distinct.kp T.b_distinct .nil pass0 (pa_cons (pv 0) pa_nil)))
  (pss_one (ps_ret (pe_join pe_str (pe_lc (own := [("letter", 3)]) (g := gName 3) (tt := tYes) (by rfl) sc_put_together.nd (pi_str (pv 0)) (blkOk_by (own := [("letter", 3)]) (N := ["pattern", "assignment", "letters", "letter"]) (sc := defScope s_put_together) (by decide +kernel)) (fun _ _ _ _ _ => (pg_name (i := 3) sc_put_together.nd rfl (by first | exact Or.inl rfl | exact Or.inr rfl))) (fun _ _ _ _ _ => pts_nil) (fun _ _ _ _ _ => (pe_ix (ix_tupK (K := K)) (pv 1) (pe_idx (pv 2) (pv 3)) (fun _ _ => rfl)))))))), ?_⟩
    have hmem : ∀ c ∈ l, ws[(dist l).idxOf c]? = some (ws[(dist l).idxOf c]?.getD []) := fun c hc => by
      have hlt := idx_dist_lt hc
      rw [List.getElem?_eq_getElem (show (dist l).idxOf c < ws.length by omega)]
      rfl
    refine ⟨_, rfl, l, rfl, by omega, ⟨_, rfl⟩, _, rfl, S l, rfl, fun D hD => ?_⟩
    refine lc_map l (fun c => vW (ws[(dist l).idxOf c]?.getD [])) walk_S hD (by omega) (fun _ _ => trivial) ?_ ?_
    · rintro i c x H2 H3 R hc s2 ⟨rfl, c', hc', rfl⟩ hR
      obtain rfl : c = c' := Option.some.inj (hc.symm.trans hc')
      have hm : c ∈ l := List.mem_of_getElem? hc
      refine ⟨rfl, _, rfl, _, rfl, ⟨_, rfl⟩, _, rfl, dist l, c, rfl, rfl, mem_dist.mpr hm, a, _, _, vW (ws[(dist l).idxOf c]?.getD []), rfl, rfl, same_tup s2 h1, ?_, hR H3 (Same.refl H3)⟩
      exact atI_nat (by rw [List.getElem?_map, hmem c hm]; rfl)
    · intro H2 s2 g2
      have e1 : (l.map fun c => vW (ws[(dist l).idxOf c]?.getD [])) = ((l.map fun c => ws[(dist l).idxOf c]?.getD []).map S).map V.str := by
        rw [List.map_map, List.map_map]
        rfl
      rw [e1] at g2
      have hb : ∀ y ∈ l.map fun c => ws[(dist l).idxOf c]?.getD [], y.length ≤ 200 := fun y hy => by
        obtain ⟨c, hc, rfl⟩ := List.mem_map.mp hy
        exact hws _ (List.mem_of_getElem? (hmem c hc))
      refine ⟨S [], D, _, rfl, rfl, .inl (SqL.of g2), join_ok 200 hb (by rw [List.length_map]; omega), ?_⟩
      rw [join0]
      exact k H2 s2

/-! ### value_of, of a pattern and an assignment -/
def sp_value_of (K : PySem.W.Frag) : Sp := fun vs H Q _ => ∃ (l : List Nat) (a : Addr) (ws : List (List Nat)), vs = [.str (S l), .ref a] ∧ Pat l ∧ SqT K H a (ws.map vW) ∧ ws.length = (dist l).length ∧ (∀ w ∈ ws, Wd w ∧ w ≠ []) ∧ (valL l ws).length ≤ 200 ∧
  ∀ H', Same H H' → Q (.str (S (valL l ws))) H'
theorem ok_value_of (T : Txt K mg A) : FnOk P w K mg base CX0 4 A.f_value_of A.d_value_of ["pattern", "assignment"] (sp_value_of K) := by
  refine T.F_value_of.ok sc_value_of (fun vs H Q E h => ?_) (fun cdv A' outer s H vs Q E hr h => ?_)
  · obtain ⟨l, a, ws, rfl, _⟩ := h
    rfl
  · obtain ⟨l, a, ws, rfl, hp, h1, hwl, hws, hv, k⟩ := h
    refine ⟨_, (pss_cons (ps_expr (pe_call (ok_need_pattern T) hr (by rfl) T.g_need_pattern T.F_need_pattern.kp T.b_need_pattern .nil pass0 (pa_cons (pv 0) pa_nil)))
  (pss_cons (ps_if (pt_not (pt_val (pe_call (ok_is_assignment T) hr (by rfl) T.g_is_assignment T.F_is_assignment.kp T.b_is_assignment .nil pass0 (pa_cons (pv 0) (pa_cons (pv 1) pa_nil))))) (pss_one ps_never) pss_nil)
  (pss_cons (ps_set (i := 2) sc_value_of.nd rfl (by first | exact Or.inl rfl | exact Or.inr rfl) (pe_call (ok_put_together T) (hr.mono (by decide)) (by rfl) T.g_put_together T.F_put_together.kp T.b_put_together .nil pass0 (pa_cons (pv 0) (pa_cons (pv 1) pa_nil))))
  (pss_cons (ps_if (pt_cmpR op_gt (pe_callB call_len_str (by rfl) T.len PySem.boot_len (pa_cons (pv 2) pa_nil)) (pe_glob (v := .int 200) (by rfl) T.g_LONGEST_WORD ⟨_, rfl⟩) (nomark _)) (pss_one ps_never) pss_nil)
  (pss_one (ps_ret (pv 2))))))), ?_⟩
    have h20 := hp.hi
    have hd7 := hp.few
    have hw2 : ∀ w ∈ ws, w.length ≤ 200 := fun w hw => (hws w hw).1.hi
    have hL : Lite 50 20000 (dataW ws) := lite_tup (D := 49) (k := 200) (m := 20000) (fun d hd => by
      obtain ⟨w, hx, rfl⟩ := List.mem_map.mp hd
      exact lite_dW (hws w hx).1 (hws w hx).1.hi) (by rw [List.length_map]; omega)
    refine ⟨_, rfl, l, rfl, hp, _, rfl, _, rfl, l, .ref a, dataW ws, 50, rfl, by omega, dp_words h1, hL.mono (by decide) (by decide), by decide, _, rfl, ?_⟩
    rw [asg_good hwl hws]
    refine iteF ⟨_, rfl, _, rfl, l, a, ws, rfl, by omega, h1, hwl, hw2, fun H2 s2 => ?_⟩
    refine ⟨_, rfl, S (valL l ws), rfl, by rw [len_S, sizeLine_eq]; omega, _, _, rfl, rfl, _, rfl, ?_⟩
    rw [len_S, show decide ((200 : Int) < ((valL l ws).length : Int)) = false from decide_eq_false (by omega)]
    exact iteF ⟨_, rfl, k H2 s2⟩

/-! ### _law_open -/
def sp_law_open (K : PySem.W.Frag) : Sp := fun vs H Q _ => ∃ (a : Addr) (ns : List Int), vs = [.ref a] ∧ SqL K H a (ns.map V.int) ∧ ns.length ≤ 63 ∧ ∀ p c H', Same H H' → H p = none → H c = none → Pen H' p c 0 → Q (.ref p) H'
theorem ok_law_open (T : Txt K mg A) : FnOk P w K mg base CX0 1 A.f_law_open A.d_law_open ["script"] (sp_law_open K) := by
  refine T.F_law_open.ok sc_law_open (fun vs H Q E h => ?_) (fun cdv A' outer s H vs Q E hr h => ?_)
  · obtain ⟨a, ns, rfl, _⟩ := h
    rfl
  · obtain ⟨a, ns, rfl, hS, hl, k⟩ := h
    refine ⟨_, (pss_cons (ps_set (i := 1) sc_law_open.nd rfl (by first | exact Or.inl rfl | exact Or.inr rfl) (pe_callTy (call_listK (K := K)) (by rfl) T.list (by decide +kernel) (pa_cons (pe_slice (sl_listK (K := K)) (pv 0) po_none (po_some pe_int)) pa_nil)))
  (pss_cons (ps_for PassesOwn.never rfl (pi_enum (by rfl) T.enumerate (pa_cons (pe_slice (sl_listK (K := K)) (pv 0) (po_some pe_int) (po_some pe_int)) pa_nil)) (pg_tup (by rfl) (pgs_cons (pg_name (i := 2) sc_law_open.nd rfl (by first | exact Or.inl rfl | exact Or.inr rfl)) (pgs_cons (pg_name (i := 3) sc_law_open.nd rfl (by first | exact Or.inl rfl | exact Or.inr rfl)) pgs_nil))) (pss_one (ps_asg (pe_op op_add (pe_ix (ix_listK (K := K)) (pv 1) (pe_op op_mod (pv 2) pe_int) (fun _ _ => rfl)) (pv 3)) (pg_sub (pv 1) (pe_op op_mod (pv 2) pe_int) set_list))))
  (pss_one (ps_ret (pe_lst (pa_cons (pv 1) (pa_cons pe_int (pa_cons pe_int pa_nil)))))))), ?_⟩
    -- cells = list(script[:12])
    refine ⟨_, rfl, 12, rfl, a, _, rfl, hS, ?_⟩
    walk_at "n1"
    refine ⟨l1, _, rfl, .inl (SqL.of e1), ?_⟩
    walk_at "n2"
    -- enumerate(script[12:63])
    refine ⟨_, rfl, 12, rfl, 63, rfl, a, _, rfl, S2.seq (S1.seq hS), ?_⟩
    walk_at "n3"
    have q1 : cutV (ns.map V.int) none (some 12) = (ns.take 12).map V.int := by rw [cutV_L, cutL_map]; exact congrArg _ (cutL_pre ns 12)
    have q2 : cutV (ns.map V.int) (some 12) (some 63) = ((ns.take 63).drop 12).map V.int := by rw [cutV_L, cutL_map]; exact congrArg _ (cutL_mid ns 12 63)
    rw [q1] at e1 e2
    rw [q2] at e3
    have m2 : H l2 = none := S1.free n2
    have m3 : H l3 = none := S1.free (S2.free n3)
    have n23 : l2 ≠ l3 := ne_of_none e2 n3
    refine ⟨l3, _, rfl, SqL.of e3, for_it (walk_enum (xs := ((ns.take 63).drop 12).map V.int)) (fun i σ H' => ∃ y2 y3, σ = [some (.ref a), some (.ref l2), y2, y3] ∧ Same H H' ∧ H' l3 = some (.lst (((ns.take 63).drop 12).map V.int)) ∧
      ∃ cs : List Int, H' l2 = some (.lst (cs.map V.int)) ∧ cs.length = min 12 ns.length) ⟨none, none, rfl, (S1.trans S2).trans S3, e3, ns.take 12, S3 _ _ e2, by rw [List.length_take]⟩ ?_ ?_ ?_⟩
    · rintro i σ H' _ ⟨_, _, _, _, x, _⟩
      exact SqL.of x
    · rintro i x σ H4 H5 hi ⟨y2, y3, rfl, s4, x4, cs, c4, hcs⟩ ⟨T1, u, v, rfl, nT, rfl, hu, hv⟩
      cases hu
      rw [List.length_map, List.length_drop, List.length_take] at hi
      replace hv : (((ns.take 63).drop 12).map V.int)[i]? = some v := hv
      rw [List.getElem?_map] at hv
      obtain ⟨z, hz, rfl⟩ := Option.map_eq_some_iff.mp hv
      refine ⟨T1, _, rfl, .inl (.inl upd_same), rfl, _, _, rfl, _, _, rfl, rfl, ?_⟩
      have nT2 : l2 ≠ T1 := ne_of_none c4 nT
      have nT3 : l3 ≠ T1 := ne_of_none x4 nT
      generalize hG : upd H4 T1 _ = G4
      obtain ⟨S4, g4⟩ := nw hG nT
      have ec := S4 _ _ c4
      have h12 : 12 ≤ cs.length := by omega
      have hm : i % 12 < cs.length := by have := Nat.mod_lt i (show 12 > 0 by decide); omega
      have ha : atI (cs.map V.int) ((i : Int) % 12) = some (.int cs[i % 12]) := by
        unfold atI
        rw [List.length_map, ix12 i h12]
        show (cs.map V.int)[i % 12]? = _
        rw [List.getElem?_map, List.getElem?_eq_getElem hm]
        rfl
      walk_at "rd"
      refine ⟨(by show (0 : Int) < _; decide), ?_⟩
      refine ⟨l2, _, _, _, rfl, rfl, SqL.of ec, ha, ?_⟩
      walk_at "rd"
      refine ⟨(by show (0 : Int) < _; decide), ?_⟩
      refine ⟨l2, _, _, _, rfl, rfl, ec, (by rw [List.length_map]; exact ix12 i h12), ?_⟩
      refine ⟨_, _, rfl, fun b o hb => ?_, ?_, cs.set (i % 12) (cs[i % 12] + z), ?_, ?_⟩
      · rw [upd_ne (ne_of_none hb m2)]
        exact S4 _ _ (s4 _ _ hb)
      · rw [upd_ne n23.symm]
        exact S4 _ _ x4
      · rw [upd_same, List.map_set]
      · rw [List.length_set]
        exact hcs
    · rintro σ H4 ⟨y2, y3, rfl, s4, x4, cs, c4, hcs⟩
      refine ⟨_, rfl, (by show 3 ≤ sizeLine; decide), ?_⟩
      walk_at "n5"
      exact k l5 l2 H5 (s4.trans S5) (s4.free n5) m2 ⟨cs, 0, 0, ⟨e5, S5 _ _ c4, by omega⟩, by decide, by decide⟩

/-! ### _law_anew -/
def sp_law_anew : Sp := fun vs H Q _ => ∃ (p c : Addr) (n : Nat), vs = [.ref p] ∧ Pen H p c n ∧ ∀ H', But p H H' → Pen H' p c n → Q (.ref p) H'
theorem ok_law_anew (T : Txt K mg A) : FnOk P w K mg base CX0 1 A.f_law_anew A.d_law_anew ["pen"] sp_law_anew := by
  refine T.F_law_anew.ok sc_law_anew (fun vs H Q E h => ?_) (fun cdv A' outer s H vs Q E hr h => ?_)
  · obtain ⟨a, c, n, rfl, _⟩ := h
    rfl
  · obtain ⟨p, c, n, rfl, hp, k⟩ := h
    refine ⟨_, (pss_cons (ps_asg pe_int (pg_sub (pv 0) pe_int set_list))
  (pss_one (ps_ret (pv 0)))), ?_⟩
    obtain ⟨ns, i, z, hA, h0, h1⟩ := hp
    have ne := hA.ne
    obtain ⟨a1, a2, a3⟩ := hA
    refine ⟨_, rfl, p, _, _, 2, rfl, rfl, a1, rfl, ?_⟩
    generalize hG : upd H p _ = G1
    obtain ⟨B1, f1⟩ := pt hG
    exact ⟨_, rfl, k G1 B1 ⟨ns, i, 0, ⟨f1, B1 _ _ ne a2, a3⟩, h0, h1⟩⟩

/-! ### _law_spread -/
def sp_law_spread : Sp := fun vs H Q _ => ∃ c a : Int, vs = [.int c, .int a] ∧ 0 ≤ a ∧ a ≤ 1048576 ∧ ∀ (r : Int) H', Same H H' → Q (.int r) H'
theorem ok_law_spread (T : Txt K mg A) : FnOk P w K mg base CX0 1 A.f_law_spread A.d_law_spread ["cell", "at"] sp_law_spread := by
  refine T.F_law_spread.ok sc_law_spread (fun vs H Q E h => ?_) (fun cdv A' outer s H vs Q E hr h => ?_)
  · obtain ⟨c, a, rfl, _⟩ := h
    rfl
  · obtain ⟨c, a, rfl, h0, h1, k⟩ := h
    refine ⟨_, (pss_cons (ps_if (pt_cmpR op_ge (pv 0) (pe_op op_pow pe_int pe_int) (nomark _)) (pss_one (ps_ret (pv 0))) pss_nil)
  (pss_cons (ps_set (i := 2) sc_law_spread.nd rfl (by first | exact Or.inl rfl | exact Or.inr rfl) (pe_lst (pa_cons pe_int (pa_cons pe_int (pa_cons pe_int (pa_cons pe_int (pa_cons pe_int (pa_cons pe_int (pa_cons pe_int pa_nil)))))))))
  (pss_cons (ps_set (i := 2) sc_law_spread.nd rfl (by first | exact Or.inl rfl | exact Or.inr rfl) (pe_op op_cat (pv 2) (pe_lst (pa_cons pe_int (pa_cons pe_int (pa_cons pe_int (pa_cons pe_int (pa_cons pe_int (pa_cons pe_int pa_nil)))))))))
  (pss_cons (ps_set (i := 3) sc_law_spread.nd rfl (by first | exact Or.inl rfl | exact Or.inr rfl) (pe_op op_add (pe_op op_add (pe_op op_mul (pe_op op_mod (pv 0) pe_int) (pe_op op_add (pe_op op_mul pe_int (pv 1)) pe_int)) (pe_op op_mul (pv 1) pe_int)) pe_int))
  (pss_cons (ps_set (i := 4) sc_law_spread.nd rfl (by first | exact Or.inl rfl | exact Or.inr rfl) (pe_op op_mod (pe_op op_pow (pv 3) pe_int) (pe_ix (ix_listK (K := K)) (pv 2) (pe_op op_mod (pv 1) pe_int) (fun _ _ => rfl))))
  (pss_cons (ps_set (i := 5) sc_law_spread.nd rfl (by first | exact Or.inl rfl | exact Or.inr rfl) (pe_op op_mod (pe_op op_pow (pe_op op_add (pe_op op_add (pe_op op_mul (pv 4) (pe_op op_add (pv 1) pe_int)) (pe_op op_mod (pv 0) pe_int)) pe_int) pe_int) (pe_ix (ix_listK (K := K)) (pv 2) (pe_op op_mod (pe_op op_add (pv 1) pe_int) pe_int) (fun _ _ => rfl))))
  (pss_cons (ps_set (i := 6) sc_law_spread.nd rfl (by first | exact Or.inl rfl | exact Or.inr rfl) (pe_op op_mod (pe_op op_pow (pe_op op_add (pe_op op_add (pv 5) (pe_op op_mod (pv 4) pe_int)) (pv 1)) pe_int) (pe_ix (ix_listK (K := K)) (pv 2) (pe_op op_mod (pe_op op_add (pv 1) pe_int) pe_int) (fun _ _ => rfl))))
  (pss_one (ps_ret (pe_op op_add (pe_op op_mul (pe_op op_add (pe_op op_mul (pv 4) pe_int) (pv 5)) pe_int) (pv 6))))))))))), ?_⟩
    refine ⟨_, rfl, _, _, rfl, rfl, ⟨by decide, by decide, by decide⟩, _, _, rfl, rfl, _, rfl, ite2 (fun e => ⟨_, rfl, k c H (Same.refl H)⟩) (fun e => ?_)⟩
    refine ⟨by decide, ?_⟩
    walk_at "n1"
    refine ⟨_, rfl, by decide, ?_⟩
    walk_at "n2"
    refine ⟨l1, l2, _, _, rfl, rfl, S2 _ _ e1, e2, by decide, ?_⟩
    walk_at "n3"
    have hP : SqL K H3 l3 (primesL.map V.int) := SqL.of e3
    have S : Same H H3 := (S1.trans S2).trans S3
    clear e1 e2 e3 n1 n2 n3 S1 S2 S3
    obtain ⟨q1, a1, b1, d1⟩ := primes_at a
    obtain ⟨q2, a2, b2, d2⟩ := primes_at (a + 5)
    obtain ⟨q3, a3, b3, d3⟩ := primes_at (a + 7)
    -- mixed
    walk_at "rd"
    refine ⟨(by show (0 : Int) < _; decide), ?_⟩
    walk_at "rd"
    refine ⟨.inl ⟨by decide, by decide⟩, ?_⟩
    walk_at "rd"
    refine ⟨.inl ⟨by omega, by omega⟩, ?_⟩
    walk_at "rd"
    refine ⟨.inl ⟨by omega, by omega⟩, ?_⟩
    walk_at "rd"
    -- one
    refine ⟨⟨by decide, by decide, mixed_lt c a h0 h1⟩, ?_⟩
    walk_at "rd"
    refine ⟨(by show (0 : Int) < _; decide), ?_⟩
    refine ⟨_, _, _, _, rfl, rfl, hP, a1, ?_⟩
    refine ⟨_, _, rfl, rfl, (by show (0 : Int) < q1; omega), ?_⟩
    generalize (c % 1000000007 * (2 * a + 69069) + a * 40503 + 977) ^ Int.toNat 3 = m1
    have r1 := rest_in (x := m1) b1 d1
    -- two
    walk_at "rd"
    refine ⟨.inl ⟨by omega, by omega⟩, ?_⟩
    walk_at "rd"
    refine ⟨(by show (0 : Int) < _; decide), ?_⟩
    walk_at "rd"
    refine ⟨⟨by decide, by decide, two_lt c a (m1 % q1) h0 h1 r1.1 r1.2⟩, ?_⟩
    walk_at "rd"
    refine ⟨(by show (0 : Int) < _; decide), ?_⟩
    refine ⟨_, _, _, _, rfl, rfl, hP, a2, ?_⟩
    refine ⟨_, _, rfl, rfl, (by show (0 : Int) < q2; omega), ?_⟩
    generalize (m1 % q1 * (a + 3) + c % 65537 + 5) ^ Int.toNat 5 = m2
    have r2 := rest_in (x := m2) b2 d2
    -- three
    walk_at "rd"
    refine ⟨(by show (0 : Int) < _; decide), ?_⟩
    walk_at "rd"
    refine ⟨⟨by decide, by decide, three_lt a (m1 % q1) (m2 % q2) h0 h1 r2.1 r2.2⟩, ?_⟩
    walk_at "rd"
    refine ⟨(by show (0 : Int) < _; decide), ?_⟩
    refine ⟨_, _, _, _, rfl, rfl, hP, a3, ?_⟩
    refine ⟨_, _, rfl, rfl, (by show (0 : Int) < q3; omega), ?_⟩
    walk_at "rd"
    refine ⟨.inr ⟨by decide, by decide⟩, ?_⟩
    walk_at "rd"
    refine ⟨.inr ⟨by decide, by decide⟩, ?_⟩
    walk_at "rd"
    exact k _ H3 S

/-! ### _law_take -/
def sp_law_take : Sp := fun vs H Q _ => ∃ (p c : Addr) (n m : Nat), vs = [.ref p, .int (m : Int)] ∧ Pen H p c n ∧ n ≤ 1000000 ∧ 0 < m ∧ m < 1073741824 ∧
  ∀ (r : Nat) H', r < m → But p H H' → Pen H' p c (n + 1) → Q (.int (r : Int)) H'
def t_take_end (K : PySem.W.Frag) : TS := tSeq (tAsg (tOp (rI (fun _ j => 0 < j) fun i j => V.int (i % j)) (tOp (rIxL K) (tVar 0) (tC (.int 2))) (tVar 1)) (gName 4))
  (tSeq (tAsg (tOp (rI CDiv fun i j => V.int (i / j)) (tOp (rIxL K) (tVar 0) (tC (.int 2))) (tVar 1)) (gSub (tVar 0) (tC (.int 2)) rSetL)) (tRet (tVar 4)))
def t_take_mid : TS := tSeq (tAsg (tOp (rI0 fun i j => V.int (i + j)) (tVar 2) (tC (.int 1))) (gSub (tVar 0) (tC (.int 1)) rSetL))
  (tAsg (tCall sp_law_spread [] E0 (tCons (tVar 3) (tCons (tVar 2) tNil))) (gSub (tVar 0) (tC (.int 2)) rSetL))
theorem ok_law_take (T : Txt K mg A) : FnOk P w K mg base CX0 2 A.f_law_take A.d_law_take ["pen", "many"] sp_law_take := by
  refine T.F_law_take.ok sc_law_take (fun vs H Q E h => ?_) (fun cdv A' outer s H vs Q E hr h => ?_)
  · obtain ⟨p, c, n, m, rfl, _⟩ := h
    rfl
  · obtain ⟨p, c, n, m, rfl, hp, hn, hm0, hm1, k⟩ := h
    refine ⟨_, (pss_cons (ps_if (pt_cmpR op_lt (pe_ix (ix_listK (K := K)) (pv 0) pe_int (fun _ _ => rfl)) (pv 1) (nomark _)) (pss_cons (ps_set (i := 2) sc_law_take.nd rfl (by first | exact Or.inl rfl | exact Or.inr rfl) (pe_ix (ix_listK (K := K)) (pv 0) pe_int (fun _ _ => rfl)))
  (pss_cons (ps_set (i := 3) sc_law_take.nd rfl (by first | exact Or.inl rfl | exact Or.inr rfl) pe_int)
  (pss_cons (ps_if (pt_cmpR op_lt (pv 2) (pe_callB (call_lenK (K := K)) (by rfl) T.len PySem.boot_len (pa_cons (pe_ix (ix_listK (K := K)) (pv 0) pe_int (fun _ _ => rfl)) pa_nil)) (nomark _)) (pss_one (ps_set (i := 3) sc_law_take.nd rfl (by first | exact Or.inl rfl | exact Or.inr rfl) (pe_ix (ix_listK (K := K)) (pe_ix (ix_listK (K := K)) (pv 0) pe_int (fun _ _ => rfl)) (pv 2) (fun _ _ => rfl)))) (pss_one (ps_if (pt_cmpR op_gt (pe_callB (call_lenK (K := K)) (by rfl) T.len PySem.boot_len (pa_cons (pe_ix (ix_listK (K := K)) (pv 0) pe_int (fun _ _ => rfl)) pa_nil)) pe_int (nomark _)) (pss_one (ps_set (i := 3) sc_law_take.nd rfl (by first | exact Or.inl rfl | exact Or.inr rfl) (pe_op op_mod (pe_ix (ix_listK (K := K)) (pe_ix (ix_listK (K := K)) (pv 0) pe_int (fun _ _ => rfl)) (pe_op op_mod (pe_op op_add (pe_op op_mul (pv 2) pe_int) pe_int) (pe_callB (call_lenK (K := K)) (by rfl) T.len PySem.boot_len (pa_cons (pe_ix (ix_listK (K := K)) (pv 0) pe_int (fun _ _ => rfl)) pa_nil))) (fun _ _ => rfl)) (pe_op op_add (pe_op op_pow pe_int pe_int) (pv 2))))) pss_nil)))
  (pss_cons (ps_asg (pe_op op_add (pv 2) pe_int) (pg_sub (pv 0) pe_int set_list))
  (pss_one (ps_asg (pe_call (ok_law_spread T) hr (by rfl) T.g_law_spread T.F_law_spread.kp T.b_law_spread .nil pass0 (pa_cons (pv 3) (pa_cons (pv 2) pa_nil))) (pg_sub (pv 0) pe_int set_list))))))) pss_nil)
  (pss_cons (ps_set (i := 4) sc_law_take.nd rfl (by first | exact Or.inl rfl | exact Or.inr rfl) (pe_op op_mod (pe_ix (ix_listK (K := K)) (pv 0) pe_int (fun _ _ => rfl)) (pv 1)))
  (pss_cons (ps_asg (pe_op op_fdiv (pe_ix (ix_listK (K := K)) (pv 0) pe_int (fun _ _ => rfl)) (pv 1)) (pg_sub (pv 0) pe_int set_list))
  (pss_one (ps_ret (pv 4)))))), ?_⟩
    -- the last three rows: found, the rest, the return
    have fin : ∀ (H1 : Hp) (σ : L2.St) (x2 x3 : Option V), But p H H1 → (∃ ns i z, PenAt H1 p c ns i z ∧ 0 ≤ i ∧ i ≤ ((n + 1 : Nat) : Int)) → σ = [some (.ref p), some (.int m), x2, x3, none] →
        t_take_end K { nx := fun _ H' => Q .non H', rt := Q } σ H1 := by
      rintro H1 σ x2 x3 B1 ⟨ns, i, z, hA, h0, h1⟩ rfl
      have ne := hA.ne
      obtain ⟨a1, a2, a3⟩ := hA
      refine ⟨_, rfl, p, _, _, _, rfl, rfl, SqL.of a1, atI_nat (j := 2) rfl, ?_⟩
      walk_at "rd"
      refine ⟨(by show (0 : Int) < m; omega), ?_⟩
      refine ⟨_, rfl, p, _, _, _, rfl, rfl, SqL.of a1, atI_nat (j := 2) rfl, ?_⟩
      walk_at "rd"
      refine ⟨⟨(by show (0 : Int) < m; omega), (by show (m : Int) < 1073741824; omega)⟩, ?_⟩
      refine ⟨_, rfl, p, _, _, 2, rfl, rfl, a1, rfl, ?_⟩
      generalize hG : upd H1 p _ = G1
      obtain ⟨B2, f2⟩ := pt hG
      refine ⟨_, rfl, ?_⟩
      have r0 : 0 ≤ z % (m : Int) := Int.emod_nonneg _ (by omega)
      have r1 : z % (m : Int) < m := Int.emod_lt_of_pos _ (by omega)
      obtain ⟨r, hr'⟩ := Int.eq_ofNat_of_zero_le r0
      have q := k r G1 (by omega) (B1.trans B2) ⟨ns, i, z / m, ⟨f2, B2 _ _ ne a2, a3⟩, h0, h1⟩
      rw [← hr'] at q
      exact q
    obtain ⟨ns, i, z, hA, h0, h1⟩ := hp
    have ne := hA.ne
    obtain ⟨a1, a2, a3⟩ := hA
    -- pen[2] < many
    refine ⟨_, rfl, p, _, _, _, rfl, rfl, SqL.of a1, atI_nat (j := 2) rfl, ?_⟩
    walk_at "rd"
    refine ite2 (fun e => ?_) (fun e => ?_)
    · -- at = pen[1]; cell = 0
      refine ⟨_, rfl, p, _, _, _, rfl, rfl, SqL.of a1, atI_nat (j := 1) rfl, ?_⟩
      -- pen[1] = at + 1; pen[2] = _law_spread(cell, at)
      have go : ∀ (σ : L2.St) (z3 : Int), σ = [some (.ref p), some (.int m), some (.int i), some (.int z3), none] →
          t_take_mid { nx := t_take_end K { nx := fun _ H' => Q .non H', rt := Q }, rt := Q } σ H := by
        rintro σ z3 rfl
        walk_at "rd"
        refine ⟨p, _, _, 1, rfl, rfl, a1, rfl, ?_⟩
        generalize hG : upd H p _ = G1
        obtain ⟨B1, f1⟩ := pt hG
        refine ⟨_, rfl, _, rfl, _, _, rfl, h0, (by omega), fun r G2 S2 => ?_⟩
        refine ⟨_, rfl, p, _, _, 2, rfl, rfl, S2 _ _ f1, rfl, ?_⟩
        generalize hG3 : upd G2 p _ = G3
        obtain ⟨B3, f3⟩ := pt hG3
        refine fin G3 _ _ _ ((B1.trans (But.of_same S2)).trans B3) ⟨ns, i + 1, r, ⟨f3, B3 _ _ ne (S2 _ _ (B1 _ _ ne a2)), a3⟩, by omega, by omega⟩ rfl
      -- at < len(pen[0])
      refine ⟨_, rfl, _, rfl, p, _, _, _, rfl, rfl, SqL.of a1, atI_nat (j := 0) rfl, ?_⟩
      refine ⟨c, _, rfl, .inl (SqL.of a2), ?_⟩
      walk_at "rd"
      refine ite2 (fun e2 => ?_) (fun e2 => ?_)
      · have l2 : i < (ns.map V.int).length := of_decide_eq_true e2
        rw [List.length_map] at l2
        obtain ⟨j, hj⟩ := Int.eq_ofNat_of_zero_le h0
        refine ⟨_, rfl, p, _, _, _, rfl, rfl, SqL.of a1, atI_nat (j := 0) rfl, ?_⟩
        refine ⟨_, rfl, c, _, _, .int (ns[j]'(by omega)), rfl, rfl, SqL.of a2, at_of hj (by rw [List.getElem?_map, List.getElem?_eq_getElem (show j < ns.length by omega)]; rfl), ?_⟩
        exact go _ _ rfl
      · refine ⟨_, rfl, p, _, _, _, rfl, rfl, SqL.of a1, atI_nat (j := 0) rfl, ?_⟩
        refine ⟨c, _, rfl, .inl (SqL.of a2), ?_⟩
        walk_at "rd"
        refine ite2 (fun e3 => ?_) (fun e3 => go _ 0 rfl)
        have l3 : 0 < ((ns.map V.int).length : Int) := of_decide_eq_true e3
        rw [List.length_map] at l3
        refine ⟨_, rfl, p, _, _, _, rfl, rfl, SqL.of a1, atI_nat (j := 0) rfl, ?_⟩
        walk_at "rd"
        refine ⟨.inr ⟨by decide, by decide⟩, ?_⟩
        walk_at "rd"
        refine ⟨p, _, _, _, rfl, rfl, SqL.of a1, atI_nat (j := 0) rfl, ?_⟩
        refine ⟨c, _, rfl, .inl (SqL.of a2), ?_⟩
        refine ⟨_, _, rfl, rfl, (by show (0 : Int) < ((ns.map V.int).length : Int); rw [List.length_map]; exact l3), ?_⟩
        have u0 : 0 ≤ (i * 5 + 3) % ((ns.map V.int).length : Int) := Int.emod_nonneg _ (by rw [List.length_map]; omega)
        have u1 : (i * 5 + 3) % ((ns.map V.int).length : Int) < ((ns.map V.int).length : Int) := Int.emod_lt_of_pos _ (by rw [List.length_map]; omega)
        obtain ⟨j, hj⟩ := Int.eq_ofNat_of_zero_le u0
        have hj2 : j < ns.length := by rw [List.length_map] at u1; rw [List.length_map] at hj; omega
        refine ⟨c, _, _, .int (ns[j]'hj2), rfl, rfl, SqL.of a2, at_of hj (by rw [List.getElem?_map, List.getElem?_eq_getElem hj2]; rfl), ?_⟩
        walk_at "rd"
        refine ⟨⟨by decide, by decide, by decide⟩, ?_⟩
        walk_at "rd"
        refine ⟨(by show (0 : Int) < 10 ^ Int.toNat 17 + i; have : (0 : Int) < 10 ^ Int.toNat 17 := by decide
                    omega), ?_⟩
        exact go _ _ rfl
    · refine fin H _ none none (But.refl p H) ⟨ns, i, z, ⟨a1, a2, a3⟩, h0, by omega⟩ rfl

/-! ### _law_one -/
def sp_law_one (K : PySem.W.Frag) : Sp := fun vs H Q _ => ∃ (p c : Addr) (n : Nat) (x : V), vs = [.ref p, x] ∧ Pen H p c n ∧ n ≤ 1000000 ∧
  ((∃ (a : Addr) (xs : List V), x = .ref a ∧ SqL K H a xs ∧ a ≠ p ∧ 0 < xs.length ∧ xs.length < 1073741824 ∧ ∀ (r : Nat) v H', xs[r]? = some v → But p H H' → Pen H' p c (n + 1) → Q v H') ∨
   (∃ z : Str, x = .str z ∧ 0 < z.length ∧ z.length ≤ sizeLine ∧ ∀ (r : Nat) (d : Nat) H', z.cps.toList[r]? = some d → But p H H' → Pen H' p c (n + 1) → Q (.str ⟨#[d]⟩) H'))
theorem ok_law_one (T : Txt K mg A) : FnOk P w K mg base CX0 3 A.f_law_one A.d_law_one ["pen", "some"] (sp_law_one K) := by
  refine T.F_law_one.ok sc_law_one (fun vs H Q E h => ?_) (fun cdv A' outer s H vs Q E hr h => ?_)
  · obtain ⟨p, c, n, x, rfl, _⟩ := h
    rfl
  · obtain ⟨p, c, n, x, rfl, hp, hn, h⟩ := h
    rcases h with ⟨a, xs, rfl, hS, ne, h0, h1, k⟩ | ⟨z, rfl, h0, h1, k⟩
    · refine ⟨_, (pss_one (ps_ret (pe_ix (ix_listK (K := K)) (pv 1) (pe_call (ok_law_take T) hr (by rfl) T.g_law_take T.F_law_take.kp T.b_law_take .nil pass0 (pa_cons (pv 0) (pa_cons (pe_callB (call_lenK (K := K)) (by rfl) T.len PySem.boot_len (pa_cons (pv 1) pa_nil)) pa_nil))) (fun _ _ => rfl)))), ?_⟩
      refine ⟨_, rfl, _, rfl, _, rfl, a, xs, rfl, .inl hS, p, c, n, xs.length, rfl, hp, hn, h0, h1, fun r H' hr' B hp' => ?_⟩
      exact ⟨a, xs, _, xs[r], rfl, rfl, B.seq ne hS, atI_nat (List.getElem?_eq_getElem hr'), k r _ H' (List.getElem?_eq_getElem hr') B hp'⟩
    · refine ⟨_, (pss_one (ps_ret (pe_ix ix_str (pv 1) (pe_call (ok_law_take T) hr (by rfl) T.g_law_take T.F_law_take.kp T.b_law_take .nil pass0 (pa_cons (pv 0) (pa_cons (pe_callB call_len_str (by rfl) T.len PySem.boot_len (pa_cons (pv 1) pa_nil)) pa_nil))) (fun _ _ => rfl)))), ?_⟩
      have hz : z.length = z.cps.toList.length := rfl
      have hsz : sizeLine = 16777216 := sizeLine_eq
      refine ⟨_, rfl, _, rfl, _, rfl, z, rfl, h1, p, c, n, z.length, rfl, hp, hn, h0, by omega, fun r H' hr' B hp' => ?_⟩
      have e : z.cps.toList[r]? = some (z.cps.toList[r]'(by omega)) := List.getElem?_eq_getElem (by omega)
      exact ⟨z, _, _, rfl, rfl, h1, atI_nat e, k r _ H' e B hp'⟩

/-! ### _law_drawn -/
/-- all numbers below m, each once, in some order -/
def Drawn (ks : List Nat) (m : Nat) : Prop := ks.Nodup ∧ ks.length = m ∧ ∀ k ∈ ks, k < m
theorem Drawn.insert {ks : List Nat} {m r : Nat} (h : Drawn ks m) : Drawn (ks.take r ++ [m] ++ ks.drop r) (m + 1) := by
  obtain ⟨h1, h2, h3⟩ := h
  have e : (ks.take r ++ [m] ++ ks.drop r).Perm (m :: ks) := by
    rw [List.append_assoc]
    refine List.perm_middle.trans ?_
    exact List.Perm.of_eq (congrArg _ (List.take_append_drop r ks))
  refine ⟨?_, ?_, fun k hk => ?_⟩
  · rw [e.nodup_iff]
    exact List.nodup_cons.mpr ⟨fun z => absurd (h3 m z) (Nat.lt_irrefl m), h1⟩
  · rw [e.length_eq, List.length_cons, h2]
  · have hk' := e.mem_iff.mp hk
    rcases List.mem_cons.mp hk' with rfl | q
    · exact Nat.lt_succ_self _
    · exact Nat.lt_succ_of_lt (h3 k q)
def sp_law_drawn : Sp := fun vs H Q _ => ∃ (p c : Addr) (n m : Nat), vs = [.ref p, .int (m : Int)] ∧ Pen H p c n ∧ n + m ≤ 1000000 ∧
  ∀ (l : Addr) (ks : List Nat) H', Drawn ks m → H l = none → H' l = some (.lst (ks.map vN)) → But p H H' → Pen H' p c (n + m) → Q (.ref l) H'
theorem ok_law_drawn (T : Txt K mg A) : FnOk P w K mg base CX0 3 A.f_law_drawn A.d_law_drawn ["pen", "many"] sp_law_drawn := by
  refine T.F_law_drawn.ok sc_law_drawn (fun vs H Q E h => ?_) (fun cdv A' outer s H vs Q E hr h => ?_)
  · obtain ⟨p, c, n, m, rfl, _⟩ := h
    rfl
  · obtain ⟨p, c, n, m, rfl, hp, hn, k⟩ := h
    refine ⟨_, (pss_cons (ps_set (i := 2) sc_law_drawn.nd rfl (by first | exact Or.inl rfl | exact Or.inr rfl) (pe_lst pa_nil))
  (pss_cons (ps_for PassesOwn.never rfl (pi_range1 (by rfl) T.range (pa_cons (pv 1) pa_nil)) (pg_name (i := 3) sc_law_drawn.nd rfl (by first | exact Or.inl rfl | exact Or.inr rfl)) (pss_one (ps_expr (pe_bm PySem.F.plainAttrs_list PySem.F.slot_list_insert PySem.F.type_list_insert mt_insert (pv 2) (pa_cons (pe_call (ok_law_take T) hr (by rfl) T.g_law_take T.F_law_take.kp T.b_law_take .nil pass0 (pa_cons (pv 0) (pa_cons (pe_op op_add (pv 3) pe_int) pa_nil))) (pa_cons (pv 3) pa_nil))))))
  (pss_one (ps_ret (pv 2))))), ?_⟩
    refine ⟨Nat.zero_le _, ?_⟩
    walk_at "n1"
    have np := hp.ne_free n1
    refine ⟨_, rfl, (m : Int), rfl, by omega, by omega, for_it walk_rangeN (fun i σ H' => ∃ y3, ∃ ks : List Nat, σ = [some (.ref p), some (.int (m : Int)), some (.ref l1), y3] ∧ But p H H' ∧ Pen H' p c (n + i) ∧ Drawn ks i ∧
      H' l1 = some (.lst (ks.map vN))) ⟨none, [], rfl, But.of_same S1, hp.same S1, ⟨List.nodup_nil, rfl, fun _ h => nomatch h⟩, e1⟩ (fun _ _ _ _ _ => trivial) ?_ ?_⟩
    · rintro i x σ H2 H3 hi ⟨y3, ks, rfl, B2, P2, D2, g2⟩ ⟨rfl, rfl⟩
      rw [Int.toNat_natCast] at hi
      refine ⟨_, rfl, .inl ⟨rfl, _, SqL.of g2⟩, _, rfl, _, rfl, _, _, rfl, rfl, p, c, n + i, i + 1, ?_, P2, by omega, by omega, by omega, fun r H4 hr4 B4 P4 => ?_⟩
      · rfl
      · have g4 := B4 _ _ np.1 g2
        refine ⟨_, rfl, l1, _, _, _, rfl, rfl, g4, ?_, by omega, by omega, ?_⟩
        · rw [List.length_map, D2.2.1]
          have hsz : sizeLine = 16777216 := sizeLine_eq
          omega
        · refine ⟨_, _, rfl, (B2.trans B4).own n1, P4.list np, D2.insert (r := r), ?_⟩
          rw [upd_same, Int.toNat_natCast, List.map_append, List.map_append, List.map_take, List.map_drop]
          rfl
    · rintro σ H2 ⟨y3, ks, rfl, B2, P2, D2, g2⟩
      rw [Int.toNat_natCast] at P2 D2
      exact ⟨_, rfl, k l1 ks H2 D2 n1 g2 B2 P2⟩

/-! ### _law_pattern -/
theorem cap_at {k : Nat} (h : k < 26) : capL[k]? = some (capL[k]?.getD 0) := by
  rw [List.getElem?_eq_getElem (show k < capL.length from h)]
  rfl
theorem cap_mem {k : Nat} (h : k < 26) : capL[k]?.getD 0 ∈ capL := List.mem_of_getElem? (cap_at h)
theorem cap_item {k : Nat} (h : k < 26) : atI ((("ABCDEFGHIJKLMNOPQRSTUVWXYZ" : String) : Str)).cps.toList (k : Int) = some (capL[k]?.getD 0) := by
  rw [capS]
  exact atI_nat (cap_at h)
def sp_law_pattern : Sp := fun vs H Q _ => ∃ (p c : Addr) (n most many : Nat), vs = [.ref p, .int (most : Int), .int (many : Int)] ∧ Pen H p c n ∧ n + 28 + most ≤ 1000000 ∧ 0 < most ∧ most ≤ 100 ∧ 0 < many ∧ many ≤ 26 ∧
  ∀ (l : List Nat) H', 1 ≤ l.length → l.length ≤ most → (∀ c ∈ l, c ∈ capL) → (dist l).length ≤ many → But p H H' → Pen H' p c (n + 28 + most) → Q (.str (S l)) H'
theorem ok_law_pattern (T : Txt K mg A) : FnOk P w K mg base CX0 4 A.f_law_pattern A.d_law_pattern ["pen", "most", "many"] sp_law_pattern := by
  refine T.F_law_pattern.ok sc_law_pattern (fun vs H Q E h => ?_) (fun cdv A' outer s H vs Q E hr h => ?_)
  · obtain ⟨p, c, n, most, many, rfl, _⟩ := h
    rfl
  · obtain ⟨p, c, n, most, many, rfl, hp, hn, h1, h2, h3, h4, k⟩ := h
    refine ⟨_, (pss_cons (ps_set (i := 3) sc_law_pattern.nd rfl (by first | exact Or.inl rfl | exact Or.inr rfl) (pe_call (ok_law_drawn T) hr (by rfl) T.g_law_drawn T.F_law_drawn.kp T.b_law_drawn .nil pass0 (pa_cons (pv 0) (pa_cons pe_int pa_nil))))
  (pss_cons (ps_set (i := 4) sc_law_pattern.nd rfl (by first | exact Or.inl rfl | exact Or.inr rfl) (pe_lc (own := [("place", 5)]) (g := gName 5) (tt := tYes) (by rfl) sc_law_pattern.nd (pi_list (pe_slice (sl_listK (K := K)) (pv 3) po_none (po_some (pe_op op_add pe_int (pe_call (ok_law_take T) (hr.mono (by decide)) (by rfl) T.g_law_take T.F_law_take.kp T.b_law_take .nil pass0 (pa_cons (pv 0) (pa_cons (pv 2) pa_nil))))))) (blkOk_by (own := [("place", 5)]) (N := ["pen", "most", "many", "order", "letters", "place", "step"]) (sc := defScope s_law_pattern) (by decide +kernel)) (fun _ _ _ _ _ => (pg_name (i := 5) sc_law_pattern.nd rfl (by first | exact Or.inl rfl | exact Or.inr rfl))) (fun _ _ _ _ _ => pts_nil) (fun _ _ _ _ _ => (pe_ix ix_str pe_str (pv 5) (fun _ _ => rfl)))))
  (pss_one (ps_ret (pe_join pe_str (pe_lc (own := [("step", 6)]) (g := gName 6) (tt := tYes) (by rfl) sc_law_pattern.nd (pi_range1 (by rfl) T.range (pa_cons (pe_op op_add pe_int (pe_call (ok_law_take T) (hr.mono (by decide)) (by rfl) T.g_law_take T.F_law_take.kp T.b_law_take .nil pass0 (pa_cons (pv 0) (pa_cons (pv 1) pa_nil)))) pa_nil)) (blkOk_by (own := [("step", 6)]) (N := ["pen", "most", "many", "order", "letters", "place", "step"]) (sc := defScope s_law_pattern) (by decide +kernel)) (fun _ _ _ _ _ => (pg_name (i := 6) sc_law_pattern.nd rfl (by first | exact Or.inl rfl | exact Or.inr rfl))) (fun _ _ _ _ _ => pts_nil) (fun _ _ _ _ _ => (pe_call (ok_law_one T) hr (by rfl) T.g_law_one T.F_law_one.kp T.b_law_one .nil pass0 (pa_cons (pv 0) (pa_cons (pv 4) pa_nil)))))))))), ?_⟩
    -- order
    refine ⟨_, rfl, p, c, n, 26, rfl, hp, by omega, fun o ks H1 D1 n1 e1 B1 P1 => ?_⟩
    have no := hp.ne_free n1
    -- order[:1 + _law_take(pen, many)]
    refine ⟨_, rfl, _, rfl, _, rfl, p, c, n + 26, many, rfl, P1, by omega, by omega, by omega, fun r H2 hr2 B2 P2 => ?_⟩
    have e2 := B2 _ _ no.1 e1
    refine ⟨_, _, rfl, rfl, _, rfl, o, _, rfl, SqL.of e2, ?_⟩
    walk_at "n3"
    rw [show (1 + (r : Int)) = ((1 + r : Nat) : Int) by omega, cutV_L, cutL_map, cutL_pre] at e3
    have D1' : ∀ k ∈ ks.take (1 + r), k < 26 := fun k hk => D1.2.2 k (List.mem_of_mem_take hk)
    have hlen : (ks.take (1 + r)).length ≤ many := by rw [List.length_take]; omega
    have hpos : 0 < (ks.take (1 + r)).length := by rw [List.length_take, D1.2.1]; omega
    have P3 := P2.same S3
    have B3 := (B1.trans B2).trans (But.of_same S3)
    generalize ks.take (1 + r) = is at e3 D1' hlen hpos
    clear e1 e2 P1 P2 B1 B2 S3 n1
    -- letters
    refine ⟨l3, rfl, ⟨_, SqL.of e3⟩, fun D hD => ?_⟩
    have w3 : Walk (Itl K l3) is.length (fun H => SqL K H l3 (is.map vN)) (YAt (is.map vN)) := by
      have w := walk_list (K := K) (a := l3) (xs := is.map vN)
      rw [List.length_map] at w
      exact w
    refine lc_map is (fun k => .str (S [capL[k]?.getD 0])) w3 hD (by have := hlen; omega) (fun H' s => s.seq (SqL.of e3)) ?_ ?_
    · rintro i a x H4 H5 R ha s4 ⟨rfl, hx⟩ hR
      rw [List.getElem?_map, ha] at hx
      obtain rfl := Option.some.inj hx
      have ha26 := D1' a (List.mem_of_getElem? ha)
      refine ⟨rfl, _, rfl, _, _, capL[a]?.getD 0, rfl, rfl, by decide +kernel, cap_item ha26, hR H5 (Same.refl H5)⟩
    · intro H4 s4 g4
      have P4 := P3.same s4
      have B4 := B3.trans (But.of_same s4)
      have nD := P3.ne_free hD
      -- the text
      refine ⟨⟨_, rfl⟩, _, rfl, _, rfl, p, c, n + 27, most, rfl, P4, by omega, by omega, by omega, fun r5 H5 hr5 B5 P5 => ?_⟩
      refine ⟨_, _, rfl, rfl, (1 + (r5 : Int)), rfl, by omega, by omega, fun D2 hD2 => ?_⟩
      have g5 := B5 _ _ nD.1 g4
      have nD2 := P5.ne_free hD2
      have m2 : D2 ≠ D := (ne_of_none g5 hD2).symm
      rw [show (1 + (r5 : Int)).toNat = 1 + r5 by omega]
      refine lc_it walk_rangeN (fun i H' => But p H H' ∧ Pen H' p c (n + 28 + i) ∧ H' D = some (.lst (is.map fun k => V.str (S [capL[k]?.getD 0]))) ∧ ∃ cs : List Nat, cs.length = i ∧ (∀ c ∈ cs, c ∈ is.map fun k => capL[k]?.getD 0) ∧
        H' D2 = some (.lst (cs.map fun c => V.str (S [c])))) ⟨(B4.trans B5).new hD2, P5.new hD2, by rw [upd_ne m2.symm]; exact g5, [], rfl, (fun _ h => nomatch h), upd_same⟩ (fun _ _ _ _ => trivial) ?_ ?_
      · rintro i x H6 H7 hi ⟨B6, P6, g6, cs, hcs, hin, c6⟩ ⟨rfl, rfl⟩
        refine ⟨rfl, yesT ⟨_, rfl, _, rfl, p, c, n + 28 + i, _, rfl, P6, by omega, .inl ⟨D, _, rfl, SqL.of g6, nD.1, ?_, ?_, fun r8 v H8 hv B8 P8 => ?_⟩⟩⟩
        · rw [List.length_map]; exact hpos
        · rw [List.length_map]; omega
        · rw [List.getElem?_map] at hv
          obtain ⟨k, hk, rfl⟩ := Option.map_eq_some_iff.mp hv
          refine ⟨_, B8 _ _ nD2.1 c6, ?_, (B6.trans B8).own ?_, P8.list nD2, ?_, cs ++ [capL[k]?.getD 0], ?_, ?_, ?_⟩
          · rw [List.length_map, hcs, sizeLine_eq]; omega
          · exact (B4.trans B5).free hD2 nD2.1
          · rw [upd_ne m2.symm]; exact B8 _ _ nD.1 g6
          · rw [List.length_append, hcs]; rfl
          · intro d hd
            rcases List.mem_append.mp hd with h | h
            · exact hin d h
            · rw [List.mem_singleton] at h
              subst h
              exact List.mem_map.mpr ⟨k, List.mem_of_getElem? hk, rfl⟩
          · rw [upd_same, List.map_append]
            rfl
      · rintro H6 ⟨B6, P6, g6, cs, hcs, hin, c6⟩
        rw [map_sg (fun c => c)] at c6
        refine ⟨S [], D2, _, rfl, rfl, .inl (SqL.of c6), join_ok1 _ (by omega), ?_⟩
        rw [join0, flat1, List.map_id']
        refine k cs H6 (by omega) (by omega) (fun d hd => ?_) ?_ B6 (P6.mono (by omega))
        · obtain ⟨k, hk, rfl⟩ := List.mem_map.mp (hin d hd)
          exact cap_mem (D1' k hk)
        · refine Nat.le_trans (dist_few hin) ?_
          rw [List.length_map]
          exact hlen

/-! ### _law_word -/
def sp_law_word : Sp := fun vs H Q _ => ∃ (p c : Addr) (n size many : Nat), vs = [.ref p, .int (size : Int), .int (many : Int)] ∧ Pen H p c n ∧ n + size ≤ 1000000 ∧ size ≤ 1000 ∧ 0 < many ∧ many ≤ 26 ∧
  ∀ (w : List Nat) H', w.length = size → (∀ c ∈ w, c ∈ smallL.take many) → But p H H' → Pen H' p c (n + size) → Q (.str (S w)) H'
theorem ok_law_word (T : Txt K mg A) : FnOk P w K mg base CX0 4 A.f_law_word A.d_law_word ["pen", "size", "many"] sp_law_word := by
  refine T.F_law_word.ok sc_law_word (fun vs H Q E h => ?_) (fun cdv A' outer s H vs Q E hr h => ?_)
  · obtain ⟨p, c, n, size, many, rfl, _⟩ := h
    rfl
  · obtain ⟨p, c, n, size, many, rfl, hp, hn, hs, hm0, hm1, k⟩ := h
    refine ⟨_, (pss_one (ps_ret (pe_join pe_str (pe_lc (own := [("step", 3)]) (g := gName 3) (tt := tYes) (by rfl) sc_law_word.nd (pi_range1 (by rfl) T.range (pa_cons (pv 1) pa_nil)) (blkOk_by (own := [("step", 3)]) (N := ["pen", "size", "many", "step"]) (sc := defScope s_law_word) (by decide +kernel)) (fun _ _ _ _ _ => (pg_name (i := 3) sc_law_word.nd rfl (by first | exact Or.inl rfl | exact Or.inr rfl))) (fun _ _ _ _ _ => pts_nil) (fun _ _ _ _ _ => (pe_call (ok_law_one T) hr (by rfl) T.g_law_one T.F_law_one.kp T.b_law_one .nil pass0 (pa_cons (pv 0) (pa_cons (pe_slice sl_str pe_str po_none (po_some (pv 2))) pa_nil)))))))), ?_⟩
    refine ⟨⟨_, rfl⟩, _, rfl, (size : Int), rfl, by omega, by omega, fun D hD => ?_⟩
    have nD := hp.ne_free hD
    rw [Int.toNat_natCast]
    refine lc_it walk_rangeN (fun i H' => But p H H' ∧ Pen H' p c (n + i) ∧ ∃ w : List Nat, w.length = i ∧ (∀ c ∈ w, c ∈ smallL.take many) ∧ H' D = some (.lst (w.map fun c => V.str (S [c]))))
      ⟨(But.refl p H).new hD, hp.new hD, [], rfl, (fun _ h => nomatch h), upd_same⟩ (fun _ _ _ _ => trivial) ?_ ?_
    · rintro i x H6 H7 hi ⟨B6, P6, w, hw, hin, g6⟩ ⟨rfl, rfl⟩
      have hl : (smallL.take many).length = many := by
        rw [List.length_take]
        exact Nat.min_eq_left (show many ≤ smallL.length from hm1)
      refine ⟨rfl, yesT ⟨_, rfl, _, rfl, _, rfl, _, rfl, by decide +kernel, ?_⟩⟩
      rw [smallS, cutS_S, cutL_pre]
      refine ⟨p, c, n + i, _, rfl, P6, by omega, .inr ⟨_, rfl, by rw [len_S]; omega, by rw [len_S, sizeLine_eq]; omega, fun r d H8 hd B8 P8 => ?_⟩⟩
      refine ⟨_, B8 _ _ nD.1 g6, ?_, (B6.trans B8).own hD, P8.list nD, w ++ [d], ?_, ?_, ?_⟩
      · rw [List.length_map, hw, sizeLine_eq]; omega
      · rw [List.length_append, hw]; rfl
      · intro x hx
        rcases List.mem_append.mp hx with h | h
        · exact hin x h
        · rw [List.mem_singleton] at h
          subst h
          exact List.mem_of_getElem? hd
      · rw [upd_same, List.map_append]
        rfl
    · rintro H6 ⟨B6, P6, w, hw, hin, g6⟩
      rw [map_sg (fun c => c)] at g6
      refine ⟨S [], D, _, rfl, rfl, .inl (SqL.of g6), join_ok1 _ (by omega), ?_⟩
      rw [join0, flat1, List.map_id']
      exact k w H6 hw hin B6 P6

/-! ### _law_letters -/
def sp_law_letters : Sp := fun vs H Q _ => ∃ l : List Nat, vs = [.str (S l)] ∧ l.length ≤ 20000 ∧ Q (.str (S (dist l))) H
theorem ok_law_letters (T : Txt K mg A) : FnOk P w K mg base CX0 1 A.f_law_letters A.d_law_letters ["pattern"] sp_law_letters := by
  refine T.F_law_letters.ok sc_law_letters (fun vs H Q E h => ?_) (fun cdv A' outer s H vs Q E hr h => ?_)
  · obtain ⟨l, rfl, _⟩ := h
    rfl
  · obtain ⟨l, rfl, hl, k⟩ := h
    refine ⟨_, (pss_cons (ps_set (i := 1) sc_law_letters.nd rfl (by first | exact Or.inl rfl | exact Or.inr rfl) pe_str)
  (pss_cons (ps_for PassesOwn.never rfl (pi_str (pv 0)) (pg_name (i := 2) sc_law_letters.nd rfl (by first | exact Or.inl rfl | exact Or.inr rfl)) (pss_one (ps_set (i := 1) sc_law_letters.nd rfl (by first | exact Or.inl rfl | exact Or.inr rfl) (pe_op op_add_str (pv 1) (pe_op op_repS (pv 2) (pe_callTy call_int1 (by rfl) T.int (by decide +kernel) (pa_cons (pe_cmpR op_notIn_sign (pv 2) (pv 1) rfl) pa_nil)))))))
  (pss_one (ps_ret (pv 1))))), ?_⟩
    refine ⟨_, rfl, S l, rfl, for_it walk_S (fun i σ H' => ∃ y, σ = [some (.str (S l)), some (.str (S (dist (l.take i)))), y] ∧ H' = H) ⟨none, rfl, rfl⟩ (fun _ _ _ _ _ => trivial) ?_ ?_⟩
    · rintro i x σ H2 H3 hi ⟨y, rfl, rfl⟩ ⟨rfl, c, hc, rfl⟩
      have hd := dist_len (l.take i)
      rw [List.length_take] at hd
      have e : dist (l.take (i + 1)) = if c ∈ dist (l.take i) then dist (l.take i) else dist (l.take i) ++ [c] := by
        rw [List.take_add_one, hc, Option.toList_some, dist_snoc]
      refine ⟨_, rfl, _, rfl, _, rfl, _, rfl, c, S (dist (l.take i)), rfl, rfl, .inr ⟨_, rfl, ?_⟩⟩
      by_cases hcm : c ∈ dist (l.take i)
      · rw [show decide (c ∈ (S (dist (l.take i))).cps.toList) = true from decide_eq_true hcm]
        rw [if_pos hcm] at e
        refine ⟨S [c], 0, rfl, rfl, mulOk_S (n := 0) (by show 1 * 0 ≤ 100000; decide) (by decide), _, _, rfl, rfl, ?_, some (.str (S [c])), ?_, rfl⟩
        · rw [show Txt.mul (S [c]) 0 = S [] from mul_S [c] 0, len_S, len_S, sizeLine_eq]
          show _ + 0 ≤ _
          omega
        · rw [show Txt.mul (S [c]) 0 = S [] from mul_S [c] 0, SX.S_cat, List.append_nil, e]
          rfl
      · rw [show decide (c ∈ (S (dist (l.take i))).cps.toList) = false from decide_eq_false hcm]
        rw [if_neg hcm] at e
        refine ⟨S [c], 1, rfl, rfl, mulOk_S (n := 1) (by show 1 * 1 ≤ 100000; decide) (by decide), _, _, rfl, rfl, ?_, some (.str (S [c])), ?_, rfl⟩
        · rw [show Txt.mul (S [c]) 1 = S [c] from mul_S [c] 1, len_S, len_S, sizeLine_eq]
          show _ + 1 ≤ _
          omega
        · rw [show Txt.mul (S [c]) 1 = S [c] from mul_S [c] 1, SX.S_cat, e]
          rfl
    · rintro σ H2 ⟨y, rfl, rfl⟩
      rw [List.take_length]
      exact ⟨_, rfl, k⟩

/-! ### _law_nested -/
def sp_law_nested (K : PySem.W.Frag) : Sp := fun vs H Q _ => ∃ (p c : Addr) (n : Nat), vs = [.ref p] ∧ Pen H p c n ∧ n + 400 ≤ 1000000 ∧
  ∀ (t a b : Addr) (l : List Nat) (ps ws : List (List Nat)) H', Pat l → l.length ≤ 4 → ps.length = (dist l).length → ps.length ≤ 3 → (∀ p ∈ ps, Pat p ∧ p.length ≤ 4 ∧ (dist p).length ≤ 2) → ws.length = (dist ps.flatten).length → (∀ w ∈ ws, Wd w ∧ w ≠ [] ∧ w.length ≤ 3) →
    But p H H' → Pen H' p c (n + 400) → SqL K H' a (ps.map vW) → SqL K H' b (ws.map vW) → a ≠ p → a ≠ c → b ≠ p → b ≠ c → H' t = some (.tup [.str (S l), .ref a, .str (S (dist ps.flatten)), .ref b]) → Q (.ref t) H'
theorem ok_law_nested (T : Txt K mg A) : FnOk P w K mg base CX0 5 A.f_law_nested A.d_law_nested ["pen"] (sp_law_nested K) := by
  refine T.F_law_nested.ok sc_law_nested (fun vs H Q E h => ?_) (fun cdv A' outer s H vs Q E hr h => ?_)
  · obtain ⟨p, c, n, rfl, _⟩ := h
    rfl
  · obtain ⟨p, c, n, rfl, P0, hn, k⟩ := h
    refine ⟨_, (pss_cons (ps_set (i := 1) sc_law_nested.nd rfl (by first | exact Or.inl rfl | exact Or.inr rfl) (pe_call (ok_law_pattern T) hr (by rfl) T.g_law_pattern T.F_law_pattern.kp T.b_law_pattern .nil pass0 (pa_cons (pv 0) (pa_cons pe_int (pa_cons pe_int pa_nil)))))
  (pss_cons (ps_setLc (i := 2) (own := [("letter", 5)]) (g := gName 5) (tt := tYes) (by rfl) sc_law_nested.nd rfl rfl (sw_true rfl rfl rfl (by decide +kernel)) (pi_str (pe_call (ok_law_letters T) (hr.mono (by decide)) (by rfl) T.g_law_letters T.F_law_letters.kp T.b_law_letters .nil pass0 (pa_cons (pv 1) pa_nil))) (blkOk_by (own := [("letter", 5)]) (N := ["pen", "outer", "inner", "letters", "words", "letter"]) (sc := defScope s_law_nested) (by decide +kernel)) (fun _ _ _ _ _ => (pg_name (i := 5) sc_law_nested.nd rfl (by first | exact Or.inl rfl | exact Or.inr rfl))) (fun _ _ _ _ _ => pts_nil) (fun _ _ _ _ _ => (pe_slice sl_str (pe_call (ok_law_pattern T) hr (by rfl) T.g_law_pattern T.F_law_pattern.kp T.b_law_pattern .nil pass0 (pa_cons (pv 0) (pa_cons pe_int (pa_cons pe_int pa_nil)))) po_none (po_some pe_int))))
  (pss_cons (ps_set (i := 3) sc_law_nested.nd rfl (by first | exact Or.inl rfl | exact Or.inr rfl) (pe_call (ok_law_letters T) (hr.mono (by decide)) (by rfl) T.g_law_letters T.F_law_letters.kp T.b_law_letters .nil pass0 (pa_cons (pe_join pe_str (pv 2)) pa_nil)))
  (pss_cons (ps_setLc (i := 4) (own := [("letter", 5)]) (g := gName 5) (tt := tYes) (by rfl) sc_law_nested.nd rfl rfl (sw_true rfl rfl rfl (by decide +kernel)) (pi_str (pv 3)) (blkOk_by (own := [("letter", 5)]) (N := ["pen", "outer", "inner", "letters", "words", "letter"]) (sc := defScope s_law_nested) (by decide +kernel)) (fun _ _ _ _ _ => (pg_name (i := 5) sc_law_nested.nd rfl (by first | exact Or.inl rfl | exact Or.inr rfl))) (fun _ _ _ _ _ => pts_nil) (fun _ _ _ _ _ => (pe_call (ok_law_word T) hr (by rfl) T.g_law_word T.F_law_word.kp T.b_law_word .nil pass0 (pa_cons (pv 0) (pa_cons (pe_op op_add pe_int (pe_call (ok_law_take T) (hr.mono (by decide)) (by rfl) T.g_law_take T.F_law_take.kp T.b_law_take .nil pass0 (pa_cons (pv 0) (pa_cons pe_int pa_nil)))) (pa_cons pe_int pa_nil))))))
  (pss_one (ps_ret (pe_tup (pa_cons (pv 1) (pa_cons (pv 2) (pa_cons (pv 3) (pa_cons (pv 4) pa_nil))))))))))), ?_⟩
    -- outer
    refine ⟨_, rfl, p, c, n, 4, 3, rfl, P0, by omega, by decide, by decide, by decide, by decide, fun l H1 l1 l2 l3 l4 B1 P1 => ?_⟩
    have hp : Pat l := ⟨l1, by omega, l3, by omega⟩
    have hdl := dist_len l
    -- inner
    refine ⟨_, rfl, l, rfl, by omega, S (dist l), rfl, fun D hD => ?_⟩
    have nD := P1.ne_free hD
    refine lc_it walk_S (fun j H' => But p H1 H' ∧ Pen H' p c (n + 28 + 4 + j * 32) ∧ ∃ ps : List (List Nat), ps.length = j ∧ (∀ p ∈ ps, Pat p ∧ p.length ≤ 4 ∧ (dist p).length ≤ 2) ∧ H' D = some (.lst (ps.map vW)))
      ⟨(But.refl p H1).new hD, P1.new hD, [], rfl, (fun _ h => nomatch h), upd_same⟩ (fun _ _ _ _ => trivial) ?_ ?_
    · rintro j x H8 H9 hj ⟨B8, P8, ps, hwl, hws, g8⟩ ⟨rfl, c', hc', rfl⟩
      have hj3 : j < 3 := Nat.lt_of_lt_of_le hj l4
      refine ⟨rfl, yesT ⟨_, rfl, p, c, _, 4, 2, rfl, P8, by omega, by decide, by decide, by decide, by decide, fun q H10 q1 q2 q3 q4 B10 P10 => ?_⟩⟩
      dsimp only [tNoPart]
      refine ⟨_, rfl, S q, rfl, by rw [len_S, sizeLine_eq]; omega, ?_⟩
      rw [cutS_S, show (4 : Int) = ((4 : Nat) : Int) from rfl, cutL_pre, List.take_of_length_le q2]
      refine ⟨_, B10 _ _ nD.1 g8, ?_, (B8.trans B10).own hD, (P10.mono ?_).list nD, ps ++ [q], ?_, ?_, ?_⟩
      · rw [List.length_map, hwl, sizeLine_eq]; omega
      · omega
      · rw [List.length_append, hwl]; rfl
      · intro w hw
        rcases List.mem_append.mp hw with h | h
        · exact hws w h
        · rw [List.mem_singleton] at h
          subst h
          exact ⟨⟨q1, by omega, q3, by omega⟩, q2, q4⟩
      · rw [upd_same, List.map_append]
        rfl
    · rintro H2 ⟨B2, P2, ps, hwl, hws, g2⟩
      have h3 : ps.length ≤ 3 := by omega
      have hfl : (dist ps.flatten).length ≤ 6 := by
        have := dist_flat_len fun p hp => (hws p hp).2.2
        omega
      have hps4 : ∀ y ∈ ps, y.length ≤ 4 := fun y hy => (hws y hy).2.1
      -- letters
      have g2' : H2 D = some (.lst ((ps.map S).map V.str)) := by
        rw [g2, List.map_map]
        rfl
      refine ⟨⟨_, rfl⟩, _, rfl, S [], D, _, rfl, rfl, .inl (SqL.of g2'), join_ok 4 hps4 (by omega), ?_⟩
      rw [join0]
      have hfl2 : ps.flatten.length ≤ 12 := by
        rw [List.length_flatten]
        refine Nat.le_trans (sum_le (b := 4) fun x hx => ?_) ?_
        · obtain ⟨y, hy, rfl⟩ := List.mem_map.mp hx
          exact hps4 y hy
        · rw [List.length_map]; omega
      refine ⟨ps.flatten, rfl, by omega, ?_⟩
      -- words
      refine ⟨_, rfl, S (dist ps.flatten), rfl, fun D2 hD2 => ?_⟩
      have nD2 := P2.ne_free hD2
      refine lc_it walk_S (fun j H' => But p H2 H' ∧ Pen H' p c (n + 28 + 4 + 96 + j * 4) ∧ ∃ ws : List (List Nat), ws.length = j ∧ (∀ w ∈ ws, Wd w ∧ w ≠ [] ∧ w.length ≤ 3) ∧ H' D2 = some (.lst (ws.map vW)))
        ⟨(But.refl p H2).new hD2, (P2.mono (by omega)).new hD2, [], rfl, (fun _ h => nomatch h), upd_same⟩ (fun _ _ _ _ => trivial) ?_ ?_
      · rintro j x H8 H9 hj ⟨B8, P8, ws, hwl2, hws2, g8⟩ ⟨rfl, c', hc', rfl⟩
        have hj6 : j < 6 := Nat.lt_of_lt_of_le hj hfl
        refine ⟨rfl, yesT ⟨_, rfl, _, rfl, p, c, _, 3, rfl, P8, by omega, by decide, by decide, fun r8 H10 hr8 B10 P10 => ⟨_, _, rfl, rfl, p, c, _, 1 + r8, 26, ?_, P10, by omega, by omega, by decide, by decide, fun wd H11 wd1 wd2 B11 P11 => ?_⟩⟩⟩
        · rw [show ((1 + r8 : Nat) : Int) = 1 + (r8 : Int) by omega]
          rfl
        · refine ⟨_, B11 _ _ nD2.1 (B10 _ _ nD2.1 g8), ?_, ((B8.trans B10).trans B11).own hD2, (P11.mono ?_).list nD2, ws ++ [wd], ?_, ?_, ?_⟩
          · rw [List.length_map, hwl2, sizeLine_eq]; omega
          · omega
          · rw [List.length_append, hwl2]; rfl
          · intro w hw
            rcases List.mem_append.mp hw with h | h
            · exact hws2 w h
            · rw [List.mem_singleton] at h
              subst h
              refine ⟨⟨by omega, fun x hx => wd2 x hx⟩, fun e => ?_, by omega⟩
              rw [e] at wd1
              simp at wd1
              omega
          · rw [upd_same, List.map_append]
            rfl
      · rintro H3 ⟨B3, P3, ws, hwl2, hws2, g3⟩
        have g3' : H3 D = some (.lst (ps.map vW)) := B3 _ _ nD.1 g2
        refine ⟨_, rfl, _, rfl, _, rfl, _, rfl, (by show 4 ≤ sizeLine; decide), ?_⟩
        walk_at "n4"
        exact k l4 D D2 l ps ws H4 hp l2 hwl h3 hws hwl2 hws2 (((B1.trans B2).trans B3).trans (But.of_same S4)) ((P3.mono (by omega)).same S4) (SqL.of (S4 _ _ g3')) (SqL.of (S4 _ _ g3)) nD.1 nD.2 nD2.1 nD2.2 e4

/-! ### the law -/
theorem abcdefgS : (("abcdefg" : String) : Str) = S (smallL.take 7) := by decide +kernel
theorem sz_S {l : List Nat} (h : l.length ≤ 100000) : (S l).length ≤ sizeLine := by rw [len_S, sizeLine_eq]; omega
theorem sgL_map (n : Nat) : ((smallL.take n).map fun c => V.str (S [c])) = (sgL n).map vW := by
  unfold sgL
  rw [List.map_map]
  rfl
set_option maxHeartbeats 8000000 in
theorem ok_law (T : Txt K mg A) : FnOk P w K mg base CX0 6 A.f_law A.d_law ["script"] (spTop K) := by
  refine T.F_law.ok sc_law (fun vs H Q E h => ?_) (fun cdv A' outer s H vs Q E hr h => ?_)
  · obtain ⟨a, ns, rfl, _⟩ := h
    rfl
  · obtain ⟨a, ns, rfl, hS, hn, k⟩ := h
    refine ⟨_, (pss_cons (ps_set (i := 1) sc_law.nd rfl (by first | exact Or.inl rfl | exact Or.inr rfl) (pe_call (ok_law_open T) (hr.mono (by decide)) (by rfl) T.g_law_open T.F_law_open.kp T.b_law_open .nil pass0 (pa_cons (pv 0) pa_nil)))
  (pss_cons (ps_for PassesOwn.never rfl (pi_range1 (by rfl) T.range (pa_cons pe_int pa_nil)) (pg_name (i := 2) sc_law.nd rfl (by first | exact Or.inl rfl | exact Or.inr rfl)) (pss_cons (ps_set (i := 3) sc_law.nd rfl (by first | exact Or.inl rfl | exact Or.inr rfl) (pe_call (ok_law_pattern T) (hr.mono (by decide)) (by rfl) T.g_law_pattern T.F_law_pattern.kp T.b_law_pattern .nil pass0 (pa_cons (pe_call (ok_law_anew T) (hr.mono (by decide)) (by rfl) T.g_law_anew T.F_law_anew.kp T.b_law_anew .nil pass0 (pa_cons (pv 1) pa_nil)) (pa_cons pe_int (pa_cons pe_int pa_nil)))))
  (pss_cons (ps_set (i := 4) sc_law.nd rfl (by first | exact Or.inl rfl | exact Or.inr rfl) (pe_callTy (cr_tupleS rfl) (by rfl) T.tuple (by decide +kernel) (pa_cons (pe_slice sl_str pe_str po_none (po_some (pe_callB call_len_str (by rfl) T.len PySem.boot_len (pa_cons (pe_call (ok_letters_of T) (hr.mono (by decide)) (by rfl) T.g_letters_of T.F_letters_of.kp T.b_letters_of .nil pass0 (pa_cons (pv 3) pa_nil)) pa_nil)))) pa_nil)))
  (pss_cons (ps_if (PW.pt (pw_or (pt_cmpR op_ne (pe_call (ok_value_of T) (hr.mono (by decide)) (by rfl) T.g_value_of T.F_value_of.kp T.b_value_of .nil pass0 (pa_cons (pv 3) (pa_cons (pv 4) pa_nil))) (pe_lower (pe_call (ok_normal_form T) (hr.mono (by decide)) (by rfl) T.g_normal_form T.F_normal_form.kp T.b_normal_form .nil pass0 (pa_cons (pv 3) pa_nil))) (nomark _)) (pw_or1 (pt_not (pt_val (pe_call (ok_is_word T) (hr.mono (by decide)) (by rfl) T.g_is_word T.F_is_word.kp T.b_is_word .nil pass0 (pa_cons (pe_call (ok_value_of T) (hr.mono (by decide)) (by rfl) T.g_value_of T.F_value_of.kp T.b_value_of .nil pass0 (pa_cons (pv 3) (pa_cons (pv 4) pa_nil))) pa_nil))))))) (pss_one (ps_ret pe_bl)) pss_nil)
  (pss_cons (ps_set (i := 5) sc_law.nd rfl (by first | exact Or.inl rfl | exact Or.inr rfl) (pe_call (ok_law_pattern T) (hr.mono (by decide)) (by rfl) T.g_law_pattern T.F_law_pattern.kp T.b_law_pattern .nil pass0 (pa_cons (pv 1) (pa_cons pe_int (pa_cons pe_int pa_nil)))))
  (pss_cons (ps_if (pt_cmpR op_eq (pe_callB call_len_str (by rfl) T.len PySem.boot_len (pa_cons (pe_call (ok_letters_of T) (hr.mono (by decide)) (by rfl) T.g_letters_of T.F_letters_of.kp T.b_letters_of .nil pass0 (pa_cons (pv 5) pa_nil)) pa_nil)) (pe_callB (call_lenK (K := K)) (by rfl) T.len PySem.boot_len (pa_cons (pv 4) pa_nil)) (nomark _)) (pss_cons (ps_set (i := 6) sc_law.nd rfl (by first | exact Or.inl rfl | exact Or.inr rfl) (pe_cmpR op_eq (pe_call (ok_value_of T) (hr.mono (by decide)) (by rfl) T.g_value_of T.F_value_of.kp T.b_value_of .nil pass0 (pa_cons (pv 5) (pa_cons (pv 4) pa_nil))) (pe_call (ok_value_of T) (hr.mono (by decide)) (by rfl) T.g_value_of T.F_value_of.kp T.b_value_of .nil pass0 (pa_cons (pv 3) (pa_cons (pv 4) pa_nil))) (nomark _)))
  (pss_one (ps_if (pt_cmpR op_ne (pv 6) (pe_cmpR op_eq (pe_call (ok_normal_form T) (hr.mono (by decide)) (by rfl) T.g_normal_form T.F_normal_form.kp T.b_normal_form .nil pass0 (pa_cons (pv 5) pa_nil)) (pe_call (ok_normal_form T) (hr.mono (by decide)) (by rfl) T.g_normal_form T.F_normal_form.kp T.b_normal_form .nil pass0 (pa_cons (pv 3) pa_nil)) (nomark _)) (nomark _)) (pss_one (ps_ret pe_bl)) pss_nil))) pss_nil)
  (pss_cons (ps_asg (pe_call (ok_law_nested T) hr (by rfl) T.g_law_nested T.F_law_nested.kp T.b_law_nested .nil pass0 (pa_cons (pv 1) pa_nil)) (pg_tup (by rfl) (pgs_cons (pg_name (i := 7) sc_law.nd rfl (by first | exact Or.inl rfl | exact Or.inr rfl)) (pgs_cons (pg_name (i := 8) sc_law.nd rfl (by first | exact Or.inl rfl | exact Or.inr rfl)) (pgs_cons (pg_name (i := 9) sc_law.nd rfl (by first | exact Or.inl rfl | exact Or.inr rfl)) (pgs_cons (pg_name (i := 10) sc_law.nd rfl (by first | exact Or.inl rfl | exact Or.inr rfl)) pgs_nil))))))
  (pss_cons (ps_set (i := 11) sc_law.nd rfl (by first | exact Or.inl rfl | exact Or.inr rfl) (pe_join pe_str (pe_lc (own := [("letter", 15)]) (g := gName 15) (tt := tYes) (by rfl) sc_law.nd (pi_str (pv 7)) (blkOk_by (own := [("letter", 15)]) (N := ["script", "pen", "turn", "pattern", "singles", "other", "equal", "outer", "inner", "letters", "words", "whole", "table", "values", "due", "letter", "own"]) (sc := defScope s_law) (by decide +kernel)) (fun _ _ _ _ _ => (pg_name (i := 15) sc_law.nd rfl (by first | exact Or.inl rfl | exact Or.inr rfl))) (fun _ _ _ _ _ => pts_nil) (fun _ _ _ _ _ => (pe_ix (ix_listK (K := K)) (pv 8) (pe_idx (pe_call (ok_letters_of T) (hr.mono (by decide)) (by rfl) T.g_letters_of T.F_letters_of.kp T.b_letters_of .nil pass0 (pa_cons (pv 7) pa_nil)) (pv 15)) (fun _ _ => rfl))))))
  (pss_cons (ps_set (i := 12) sc_law.nd rfl (by first | exact Or.inl rfl | exact Or.inr rfl) (pe_dictZ rfl (by rfl) T.dict (by rfl) T.zip (pa_cons (pv 9) (pa_cons (pv 10) pa_nil))))
  (pss_cons (ps_setLc (i := 13) (own := [("own", 16)]) (g := gName 16) (tt := tYes) (by rfl) sc_law.nd rfl rfl (sw_true rfl rfl rfl (by decide +kernel)) (pi_list (pv 8)) (blkOk_by (own := [("own", 16)]) (N := ["script", "pen", "turn", "pattern", "singles", "other", "equal", "outer", "inner", "letters", "words", "whole", "table", "values", "due", "letter", "own"]) (sc := defScope s_law) (by decide +kernel)) (fun _ _ _ _ _ => (pg_name (i := 16) sc_law.nd rfl (by first | exact Or.inl rfl | exact Or.inr rfl))) (fun _ _ _ _ _ => pts_nil) (fun _ _ _ _ _ => (pe_call (ok_value_of T) (hr.mono (by decide)) (by rfl) T.g_value_of T.F_value_of.kp T.b_value_of .nil pass0 (pa_cons (pv 16) (pa_cons (pe_callTy (call_tupleK (K := K)) (by rfl) T.tuple (by decide +kernel) (pa_cons (pe_lc (own := [("letter", 15)]) (g := gName 15) (tt := tYes) (by rfl) sc_law.nd (pi_str (pe_call (ok_letters_of T) (hr.mono (by decide)) (by rfl) T.g_letters_of T.F_letters_of.kp T.b_letters_of .nil pass0 (pa_cons (pv 16) pa_nil))) (blkOk_by (own := [("letter", 15)]) (by rfl)) (fun _ _ _ _ _ => (pg_name (i := 15) sc_law.nd rfl (by first | exact Or.inl rfl | exact Or.inr rfl))) (fun _ _ _ _ _ => pts_nil) (fun _ _ _ _ _ => (pe_dget (hu_of hr) (pv 12) (pv 15) (fun _ _ => rfl)))) pa_nil)) pa_nil)))))
  (pss_cons (ps_set (i := 14) sc_law.nd rfl (by first | exact Or.inl rfl | exact Or.inr rfl) (pe_call (ok_value_of T) (hr.mono (by decide)) (by rfl) T.g_value_of T.F_value_of.kp T.b_value_of .nil pass0 (pa_cons (pv 11) (pa_cons (pe_callTy call_tuple_of (by rfl) T.tuple (by decide +kernel) (pa_cons (pe_lc (own := [("letter", 15)]) (g := gName 15) (tt := tYes) (by rfl) sc_law.nd (pi_str (pe_call (ok_letters_of T) (hr.mono (by decide)) (by rfl) T.g_letters_of T.F_letters_of.kp T.b_letters_of .nil pass0 (pa_cons (pv 11) pa_nil))) (blkOk_by (own := [("letter", 15)]) (N := ["script", "pen", "turn", "pattern", "singles", "other", "equal", "outer", "inner", "letters", "words", "whole", "table", "values", "due", "letter", "own"]) (sc := defScope s_law) (by decide +kernel)) (fun _ _ _ _ _ => (pg_name (i := 15) sc_law.nd rfl (by first | exact Or.inl rfl | exact Or.inr rfl))) (fun _ _ _ _ _ => pts_nil) (fun _ _ _ _ _ => (pe_dget (hu_of hr) (pv 12) (pv 15) (fun _ _ => rfl)))) pa_nil)) pa_nil))))
  (pss_one (ps_if (pt_cmpR op_ne (pe_call (ok_value_of T) (hr.mono (by decide)) (by rfl) T.g_value_of T.F_value_of.kp T.b_value_of .nil pass0 (pa_cons (pv 7) (pa_cons (pe_callTy call_tuple_of (by rfl) T.tuple (by decide +kernel) (pa_cons (pv 13) pa_nil)) pa_nil))) (pv 14) (nomark _)) (pss_one (ps_ret pe_bl)) pss_nil)))))))))))))
  (pss_one (ps_ret pe_bl)))), ?_⟩
    refine ⟨_, rfl, a, ns, rfl, hS, hn, fun p c H1 S1 np nc P1 => ?_⟩
    refine ⟨5, rfl, by decide, by decide, for_it walk_rangeN (fun i σ H' => ∃ y2 y3 y4 y5 y6 y7 y8 y9 y10 y11 y12 y13 y14 y15 y16, σ = [some (.ref a), some (.ref p), y2, y3, y4, y5, y6, y7, y8, y9, y10, y11, y12, y13, y14, y15, y16] ∧ Pen H' p c (i * 1000))
      ⟨none, none, none, none, none, none, none, none, none, none, none, none, none, none, none, rfl, P1⟩ (fun _ _ _ _ _ => trivial) ?_ ?_⟩
    · rintro i x σ H2 H3 hi ⟨y2, y3, y4, y5, y6, y7, y8, y9, y10, y11, y12, y13, y14, y15, y16, rfl, P2⟩ ⟨rfl, rfl⟩
      replace hi : i < 5 := hi
      -- pattern
      refine ⟨_, rfl, p, c, i * 1000, rfl, P2, fun H4 B4 P4 => ?_⟩
      refine ⟨p, c, i * 1000, 20, 7, rfl, P4, by omega, by decide, by decide, by decide, by decide, fun l H5 l1 l2 l3 l4 B5 P5 => ?_⟩
      have hp : Pat l := ⟨l1, l2, l3, l4⟩
      have hdl := dist_len l
      -- singles
      refine ⟨_, rfl, l, rfl, hp, S (dist l), rfl, sz_S (by omega), _, rfl, _, rfl, by decide +kernel, ?_⟩
      rw [len_S, abcdefgS, cutS_S, cutL_pre, List.take_take, Nat.min_eq_left l4]
      refine ⟨smallL.take (dist l).length, rfl, by rw [List.length_take, show smallL.length = 26 from rfl]; omega, ?_⟩
      walk_at "n6"
      rw [sgL_map] at e6
      have P6 := P5.same S6
      have hsl := sgL_len l4
      have hv := val_single (l := l) rfl l4
      have hvl : (valL l (sgL (dist l).length)).length ≤ 200 := by
        rw [hv]
        unfold upL nf
        rw [List.length_map, List.length_map]
        omega
      refine ⟨_, rfl, _, rfl, l, l6, sgL (dist l).length, rfl, hp, SqT.of e6, hsl, sgL_wd, hvl, fun H7 S7 => ?_⟩
      refine ⟨_, rfl, l, rfl, hp, fun H8 S8 => ?_⟩
      refine ⟨⟨_, rfl⟩, S (nf l), rfl, rfl, by rw [len_S]; unfold nf; rw [List.length_map]; omega, ?_⟩
      rw [lower_cap hp.nf.cap, hv]
      refine ⟨rfl, _, rfl, iteNS rfl ?_⟩
      have P8 := (P6.same S7).same S8
      have e8 := S8 _ _ (S7 _ _ e6)
      have nl6 := P5.ne_free n6
      refine ⟨_, rfl, _, rfl, l, l6, sgL (dist l).length, rfl, hp, SqT.of e8, hsl, sgL_wd, hvl, fun H9 S9 => ?_⟩
      rw [hv]
      have P9 := P8.same S9
      have hw : Wd (upL (nf l)) := ⟨by unfold upL nf; rw [List.length_map, List.length_map]; omega, fun x hx => by
        obtain ⟨y, hy, rfl⟩ := List.mem_map.mp hx
        exact cap_up (hp.nf.cap y hy)⟩
      refine ⟨_, dW (upL (nf l)), rfl, .str _, by have := hw.hi; exact Nat.le_trans this (by decide), _, rfl, ?_⟩
      rw [wordD_dW.mpr hw]
      refine iteF ?_
      -- other
      refine ⟨_, rfl, p, c, i * 1000 + 48, 20, 7, rfl, P9, by omega, by decide, by decide, by decide, by decide, fun m H10 m1 m2 m3 m4 B10 P10 => ?_⟩
      have hq : Pat m := ⟨m1, m2, m3, m4⟩
      have e10 := B10 _ _ nl6.1 (S9 _ _ e8)
      refine ⟨_, rfl, m, rfl, hq, S (dist m), rfl, sz_S (by omega), _, rfl, l6, _, rfl, .inr (SqT.of e10), rfl, _, rfl, ?_⟩
      rw [len_S, List.length_map, hsl]
      have hvm : ∀ e : (dist m).length = (dist l).length, valL m (sgL (dist l).length) = upL (nf m) := fun e => val_single e l4
      have hpos : 0 < (dist l).length := by
        have hl0 : 0 < l.length := l1
        exact List.length_pos_of_mem (mem_dist.mpr (List.getElem_mem hl0))
      have up : ∀ {u v : List Nat}, decide (V.str (S (upL u)) = V.str (S (upL v))) = decide (V.str (S u) = V.str (S v)) := fun {u v} => decide_eq_decide.mpr ⟨fun h => by rw [upL_inj (SX.S_inj (V.str.inj h))], fun h => by rw [SX.S_inj (V.str.inj h)]⟩
      by_cases e : (dist m).length = (dist l).length
      rw [show decide (V.int ((dist m).length : Int) = V.int ((dist l).length : Int)) = true from decide_eq_true (by rw [e])]
      refine iteT ?_
      refine ⟨_, rfl, _, rfl, m, l6, sgL (dist l).length, rfl, hq, SqT.of e10, hsl.trans e.symm, sgL_wd, by rw [hvm e]; unfold upL nf; rw [List.length_map, List.length_map]; omega, fun H11 S11 => ?_⟩
      refine ⟨_, rfl, _, rfl, l, l6, sgL (dist l).length, rfl, hp, SqT.of (S11 _ _ e10), hsl, sgL_wd, hvl, fun H12 S12 => ?_⟩
      rw [hvm e, hv]
      refine ⟨rfl, ?_⟩
      refine ⟨_, rfl, _, rfl, m, rfl, hq, fun H13 S13 => ?_⟩
      refine ⟨_, rfl, l, rfl, hp, fun H14 S14 => ?_⟩
      refine ⟨rfl, rfl, _, rfl, iteNS (by rw [up]) ?_⟩
      have P14 := (((P10.same S11).same S12).same S13).same S14
      rotate_left
      rw [show decide (V.int ((dist m).length : Int) = V.int ((dist l).length : Int)) = false from decide_eq_false fun z => e (by have := V.int.inj z; omega)]
      refine iteF ?_
      obtain ⟨H14, rfl⟩ : ∃ X, H10 = X := ⟨_, rfl⟩
      have P14 := P10
      all_goals
        clear e
        refine ⟨_, rfl, p, c, i * 1000 + 96, rfl, P14, by omega, fun t ia ib o ps ws H15 o0 o1 o2 o3 o4 w1 w2 B15 P15 sa sb n1 n2 n3 n4 et => ?_⟩
        refine ⟨t, _, rfl, SqT.of et, rfl, _, _, rfl, _, _, rfl, _, _, rfl, _, _, rfl, rfl, ?_⟩
        have hfl := dist_flat_len fun p hp => (o4 p hp).2.2
        have hWd : ∀ c ∈ ps.flatten, Wd (wOf (dist ps.flatten) ws c) ∧ wOf (dist ps.flatten) ws c ≠ [] ∧ (wOf (dist ps.flatten) ws c).length ≤ 3 := fun c hc => w2 _ (wOf_mem (mem_dist.mpr hc) w1)
        have hps4 : ∀ y ∈ ps, y.length ≤ 4 := fun y hy => (o4 y hy).2.1
        have hmo : ∀ c ∈ o, ps[(dist o).idxOf c]? = some (ps[(dist o).idxOf c]?.getD []) := fun c hc => by
          have hlt := idx_dist_lt hc
          rw [List.getElem?_eq_getElem (show (dist o).idxOf c < ps.length by omega)]
          rfl
        obtain ⟨hwp, hwl⟩ := val_pat o0 o1 o2 o3 o4
        -- whole
        refine ⟨⟨_, rfl⟩, _, rfl, S o, rfl, fun D hD => ?_⟩
        refine lc_map o (fun c => vW (ps[(dist o).idxOf c]?.getD [])) walk_S hD (by omega) (fun _ _ => trivial) ?_ ?_
        · rintro j b x H16 H17 R hb s16 ⟨rfl, c', hc', rfl⟩ hR
          obtain rfl : b = c' := Option.some.inj (hb.symm.trans hc')
          have hm : b ∈ o := List.mem_of_getElem? hb
          refine ⟨rfl, _, rfl, _, rfl, o, rfl, o0, ⟨_, rfl⟩, _, rfl, dist o, b, rfl, rfl, mem_dist.mpr hm, ia, _, _, vW (ps[(dist o).idxOf b]?.getD []), rfl, rfl, s16.seq sa, ?_, hR H17 (Same.refl H17)⟩
          exact atI_nat (by rw [List.getElem?_map, hmo b hm]; rfl)
        intro H16 s16 g16
        have g16' : H16 D = some (.lst (((o.map fun c => ps[(dist o).idxOf c]?.getD []).map S).map V.str)) := by
          rw [g16, List.map_map, List.map_map]
          rfl
        have hb4 : ∀ y ∈ o.map fun c => ps[(dist o).idxOf c]?.getD [], y.length ≤ 4 := fun y hy => by
          obtain ⟨c, hc, rfl⟩ := List.mem_map.mp hy
          exact hps4 _ (List.mem_of_getElem? (hmo c hc))
        refine ⟨S [], D, _, rfl, rfl, .inl (SqL.of g16'), join_ok 4 hb4 (by rw [List.length_map]; omega), ?_⟩
        rw [join0]
        -- table
        refine ⟨_, rfl, _, rfl, dist ps.flatten, ib, ws.map vW, rfl, by omega, s16.seq sb, ?_⟩
        intro lt nt
        generalize ht : upd _ lt _ = H17
        obtain ⟨S17, e17⟩ := nw ht nt
        clear ht
        have hla : SqL K H17 ia (ps.map vW) := S17.seq (s16.seq sa)
        have wpt : ∀ c ∈ dist ps.flatten, ∀ H', Same H17 H' → DGet H' lt (.str (S [c])) (some (vW (wOf (dist ps.flatten) ws c))) := fun c hc H' hs =>
          zkv_at (l := dist ps.flatten) (ws := ws.map vW) (dist_nodup _) (by rw [List.length_map]; omega) (.inl (hs _ _ e17)) hc (by rw [List.getElem?_map, wOf_at hc w1]; rfl)
        -- the words of a pattern's letters
        have hasg : ∀ q : List Nat, Pat q → (∀ c ∈ q, c ∈ ps.flatten) → (((dist q).map (wOf (dist ps.flatten) ws)).length = (dist q).length ∧ (∀ w ∈ (dist q).map (wOf (dist ps.flatten) ws), Wd w ∧ w ≠ []) ∧ (valL q ((dist q).map (wOf (dist ps.flatten) ws))).length ≤ 200) := fun q hq hin => by
          refine ⟨List.length_map .., fun w hw => ?_, ?_⟩
          · obtain ⟨c, hc, rfl⟩ := List.mem_map.mp hw
            have := hWd c (hin c (mem_dist.mp hc))
            exact ⟨this.1, this.2.1⟩
          · rw [valL_map]
            have h1 := flat_len (l := q) (f := wOf (dist ps.flatten) ws) (b := 3) fun c hc => (hWd c (hin c hc)).2.2
            have h2 := hq.hi
            omega
        -- values
        refine ⟨_, rfl, ia, rfl, ⟨_, hla⟩, fun D2 hD2 => ?_⟩
        have wl : Walk (Itl K ia) ps.length (fun H => SqL K H ia (ps.map vW)) (YAt (ps.map vW)) := by
          have w := walk_list (K := K) (a := ia) (xs := ps.map vW)
          rw [List.length_map] at w
          exact w
        refine lc_map ps (fun q => vW (q.map (wOf (dist ps.flatten) ws)).flatten) wl hD2 (by omega) (fun H' s => s.seq hla) ?_ ?_
        · rintro j q x H18 H19 R hq0 s18 ⟨rfl, hx⟩ hR
          rw [List.getElem?_map, hq0] at hx
          obtain rfl := Option.some.inj hx
          have hqm := List.mem_of_getElem? hq0
          have hqp := (o4 q hqm).1
          have hin : ∀ c ∈ q, c ∈ ps.flatten := fun c hc => List.mem_flatten.mpr ⟨q, hqm, hc⟩
          have hdq := dist_len q
          have hq20 := hqp.hi
          obtain ⟨z1, z2, z3⟩ := hasg q hqp hin
          refine ⟨rfl, _, rfl, _, rfl, q, rfl, hqp, S (dist q), rfl, fun D3 hD3 => ?_⟩
          refine lc_map (dist q) (fun c => vW (wOf (dist ps.flatten) ws c)) walk_S hD3 (by omega) (fun _ _ => trivial) ?_ ?_
          · rintro j2 b x H20 H21 R2 hb s20 ⟨rfl, c', hc', rfl⟩ hR2
            obtain rfl : b = c' := Option.some.inj (hb.symm.trans hc')
            have hm : b ∈ dist q := List.mem_of_getElem? hb
            exact ⟨rfl, _, rfl, _, rfl, lt, _, rfl, wpt b (mem_dist.mpr (hin b (mem_dist.mp hm))) _ (s18.trans s20), hR2 H21 (Same.refl H21)⟩
          · intro H20 s20 g20
            refine ⟨D3, _, rfl, .inl ⟨SqL.of g20, ?_⟩⟩
            intro tt nt2
            generalize ht : upd _ tt _ = H21
            obtain ⟨S21, e21⟩ := nw ht nt2
            clear ht
            have e21' : H21 tt = some (.tup (((dist q).map (wOf (dist ps.flatten) ws)).map vW)) := by
              rw [e21, List.map_map]
              rfl
            refine ⟨q, tt, (dist q).map (wOf (dist ps.flatten) ws), rfl, hqp, SqT.of e21', z1, z2, z3, fun H22 S22 => ?_⟩
            rw [valL_map]
            exact hR H22 ((s20.trans S21).trans S22)
        intro H18 s18 g18
        -- due
        have hvin : ∀ c ∈ valL o ps, c ∈ ps.flatten := fun c hc => val_mem hc
        obtain ⟨z1, z2, z3⟩ := hasg (valL o ps) hwp hvin
        have hdv := dist_len (valL o ps)
        change tSeq _ _ _ (List.set _ 13 _) H18
        refine ⟨_, rfl, _, rfl, valL o ps, rfl, hwp, S (dist (valL o ps)), rfl, fun D4 hD4 => ?_⟩
        refine lc_map (dist (valL o ps)) (fun c => vW (wOf (dist ps.flatten) ws c)) walk_S hD4 (by omega) (fun _ _ => trivial) ?_ ?_
        · rintro j2 b x H20 H21 R2 hb s20 ⟨rfl, c', hc', rfl⟩ hR2
          obtain rfl : b = c' := Option.some.inj (hb.symm.trans hc')
          have hm : b ∈ dist (valL o ps) := List.mem_of_getElem? hb
          exact ⟨rfl, _, rfl, _, rfl, lt, _, rfl, wpt b (mem_dist.mpr (hvin b (mem_dist.mp hm))) _ (s18.trans s20), hR2 H21 (Same.refl H21)⟩
        intro H20 s20 g20
        refine ⟨D4, _, rfl, .inl ⟨SqL.of g20, ?_⟩⟩
        intro tt nt2
        generalize ht : upd _ tt _ = H21
        obtain ⟨S21, e21⟩ := nw ht nt2
        clear ht
        have e21' : H21 tt = some (.tup (((dist (valL o ps)).map (wOf (dist ps.flatten) ws)).map vW)) := by
          rw [e21, List.map_map]
          rfl
        refine ⟨valL o ps, tt, (dist (valL o ps)).map (wOf (dist ps.flatten) ws), rfl, hwp, SqT.of e21', z1, z2, z3, fun H22 S22 => ?_⟩
        rw [valL_map]
        -- the value of the outer one
        have g22 : H22 D2 = some (.lst ((ps.map fun q => (q.map (wOf (dist ps.flatten) ws)).flatten).map vW)) := by
          rw [S22 _ _ (S21 _ _ (s20 _ _ g18)), List.map_map]
          rfl
        refine ⟨_, rfl, _, rfl, D2, _, rfl, .inl ⟨SqL.of g22, ?_⟩⟩
        intro tv nt3
        generalize ht : upd _ tv _ = H23
        obtain ⟨S23, e23⟩ := nw ht nt3
        clear ht
        refine ⟨o, tv, ps.map fun q => (q.map (wOf (dist ps.flatten) ws)).flatten, rfl, o0, SqT.of e23, by rw [List.length_map]; exact o2, fun w hw => ?_, ?_, fun H24 S24 => ?_⟩
        · obtain ⟨q, hqm, rfl⟩ := List.mem_map.mp hw
          have hqp := (o4 q hqm).1
          exact flat_wd (fun e => by have := hqp.lo; rw [e] at this; exact absurd this (by decide)) hqp.hi fun c hc => hWd c (List.mem_flatten.mpr ⟨q, hqm, hc⟩)
        · rw [val_val]
          have h1 := flat_len (l := valL o ps) (f := wOf (dist ps.flatten) ws) (b := 3) fun c hc => (hWd c (hvin c hc)).2.2
          omega
        · rw [val_val]
          have P24 := (((((((P15.same s16).same S17).same s18).same s20).same S21).same S22).same S23).same S24
          refine ⟨_, rfl, rfl, _, rfl, iteNS rfl ?_⟩
          exact ⟨_, _, _, _, _, _, _, _, _, _, _, _, _, _, _, rfl, P24.mono (by omega)⟩
    · rintro σ H2 ⟨y2, y3, y4, y5, y6, y7, y8, y9, y10, y11, y12, y13, y14, y15, y16, rfl, P2⟩
      exact k _

end

theorem all_mk {l : PySem.W.OpenLaw} {w : World} {K : PySem.W.Frag} {h : Heap} {mg : Str → Option Value} {fa : Addr} (X : K.In h) (G : h.Ns mainGlobals mg) (hfa : mg "law" = some (.ref fa))
    {f0 : Addr} {od0 an0 : Option Addr} {sl0 : Array (Option Value)} {oc0 kV0 dc0 pm0 cd0 ct0 : Value}
    {f1 : Addr} {od1 an1 : Option Addr} {sl1 : Array (Option Value)} {oc1 kV1 dc1 pm1 cd1 ct1 : Value}
    {f2 : Addr} {od2 an2 : Option Addr} {sl2 : Array (Option Value)} {oc2 kV2 dc2 pm2 cd2 ct2 : Value}
    {f3 : Addr} {od3 an3 : Option Addr} {sl3 : Array (Option Value)} {oc3 kV3 dc3 pm3 cd3 ct3 : Value}
    {f4 : Addr} {od4 an4 : Option Addr} {sl4 : Array (Option Value)} {oc4 kV4 dc4 pm4 cd4 ct4 : Value}
    {f5 : Addr} {od5 an5 : Option Addr} {sl5 : Array (Option Value)} {oc5 kV5 dc5 pm5 cd5 ct5 : Value}
    {f6 : Addr} {od6 an6 : Option Addr} {sl6 : Array (Option Value)} {oc6 kV6 dc6 pm6 cd6 ct6 : Value}
    {f7 : Addr} {od7 an7 : Option Addr} {sl7 : Array (Option Value)} {oc7 kV7 dc7 pm7 cd7 ct7 : Value}
    {f8 : Addr} {od8 an8 : Option Addr} {sl8 : Array (Option Value)} {oc8 kV8 dc8 pm8 cd8 ct8 : Value}
    {f9 : Addr} {od9 an9 : Option Addr} {sl9 : Array (Option Value)} {oc9 kV9 dc9 pm9 cd9 ct9 : Value}
    {f10 : Addr} {od10 an10 : Option Addr} {sl10 : Array (Option Value)} {oc10 kV10 dc10 pm10 cd10 ct10 : Value}
    {f11 : Addr} {od11 an11 : Option Addr} {sl11 : Array (Option Value)} {oc11 kV11 dc11 pm11 cd11 ct11 : Value}
    {f12 : Addr} {od12 an12 : Option Addr} {sl12 : Array (Option Value)} {oc12 kV12 dc12 pm12 cd12 ct12 : Value}
    {f13 : Addr} {od13 an13 : Option Addr} {sl13 : Array (Option Value)} {oc13 kV13 dc13 pm13 cd13 ct13 : Value}
    {f14 : Addr} {od14 an14 : Option Addr} {sl14 : Array (Option Value)} {oc14 kV14 dc14 pm14 cd14 ct14 : Value}
    {f15 : Addr} {od15 an15 : Option Addr} {sl15 : Array (Option Value)} {oc15 kV15 dc15 pm15 cd15 ct15 : Value}
    {f16 : Addr} {od16 an16 : Option Addr} {sl16 : Array (Option Value)} {oc16 kV16 dc16 pm16 cd16 ct16 : Value}
    {f17 : Addr} {od17 an17 : Option Addr} {sl17 : Array (Option Value)} {oc17 kV17 dc17 pm17 cd17 ct17 : Value}
    {f18 : Addr} {od18 an18 : Option Addr} {sl18 : Array (Option Value)} {oc18 kV18 dc18 pm18 cd18 ct18 : Value}
    {f19 : Addr} {od19 an19 : Option Addr} {sl19 : Array (Option Value)} {oc19 kV19 dc19 pm19 cd19 ct19 : Value}
    {f20 : Addr} {od20 an20 : Option Addr} {sl20 : Array (Option Value)} {oc20 kV20 dc20 pm20 cd20 ct20 : Value}
    {f21 : Addr} {od21 an21 : Option Addr} {sl21 : Array (Option Value)} {oc21 kV21 dc21 pm21 cd21 ct21 : Value}
    {t_CAPITALS : Tok}
    {t_LONGEST_PATTERN : Tok}
    {t_LONGEST_WORD : Tok}
    {t_MOST_LETTERS : Tok}
    {t_SMALL : Tok}
    (a0 : PySem.W.nsIn K mainGlobals "has_only" = some (some (.ref f0)))
    (l0 : K.lookup f0 = some ⟨oc0, od0, .func (PySem.W.fnOf "has_only" "has_only" (defArgs s_has_only) (defBody s_has_only) (defScope s_has_only) .none kV0 dc0 pm0 an0 cd0 ct0), sl0⟩)
    (c0 : PySem.W.codeIn K cd0 "has_only" = true)
    (k0 : PySem.W.keepIn K (.ref f0) = true)
    (a1 : PySem.W.nsIn K mainGlobals "is_word" = some (some (.ref f1)))
    (l1 : K.lookup f1 = some ⟨oc1, od1, .func (PySem.W.fnOf "is_word" "is_word" (defArgs s_is_word) (defBody s_is_word) (defScope s_is_word) .none kV1 dc1 pm1 an1 cd1 ct1), sl1⟩)
    (c1 : PySem.W.codeIn K cd1 "is_word" = true)
    (k1 : PySem.W.keepIn K (.ref f1) = true)
    (a2 : PySem.W.nsIn K mainGlobals "distinct" = some (some (.ref f2)))
    (l2 : K.lookup f2 = some ⟨oc2, od2, .func (PySem.W.fnOf "distinct" "distinct" (defArgs s_distinct) (defBody s_distinct) (defScope s_distinct) .none kV2 dc2 pm2 an2 cd2 ct2), sl2⟩)
    (c2 : PySem.W.codeIn K cd2 "distinct" = true)
    (k2 : PySem.W.keepIn K (.ref f2) = true)
    (a3 : PySem.W.nsIn K mainGlobals "is_pattern" = some (some (.ref f3)))
    (l3 : K.lookup f3 = some ⟨oc3, od3, .func (PySem.W.fnOf "is_pattern" "is_pattern" (defArgs s_is_pattern) (defBody s_is_pattern) (defScope s_is_pattern) .none kV3 dc3 pm3 an3 cd3 ct3), sl3⟩)
    (c3 : PySem.W.codeIn K cd3 "is_pattern" = true)
    (k3 : PySem.W.keepIn K (.ref f3) = true)
    (a4 : PySem.W.nsIn K mainGlobals "need_pattern" = some (some (.ref f4)))
    (l4 : K.lookup f4 = some ⟨oc4, od4, .func (PySem.W.fnOf "need_pattern" "need_pattern" (defArgs s_need_pattern) (defBody s_need_pattern) (defScope s_need_pattern) .none kV4 dc4 pm4 an4 cd4 ct4), sl4⟩)
    (c4 : PySem.W.codeIn K cd4 "need_pattern" = true)
    (k4 : PySem.W.keepIn K (.ref f4) = true)
    (a5 : PySem.W.nsIn K mainGlobals "letters_of" = some (some (.ref f5)))
    (l5 : K.lookup f5 = some ⟨oc5, od5, .func (PySem.W.fnOf "letters_of" "letters_of" (defArgs s_letters_of) (defBody s_letters_of) (defScope s_letters_of) .none kV5 dc5 pm5 an5 cd5 ct5), sl5⟩)
    (c5 : PySem.W.codeIn K cd5 "letters_of" = true)
    (k5 : PySem.W.keepIn K (.ref f5) = true)
    (a6 : PySem.W.nsIn K mainGlobals "in_normal_form" = some (some (.ref f6)))
    (l6 : K.lookup f6 = some ⟨oc6, od6, .func (PySem.W.fnOf "in_normal_form" "in_normal_form" (defArgs s_in_normal_form) (defBody s_in_normal_form) (defScope s_in_normal_form) .none kV6 dc6 pm6 an6 cd6 ct6), sl6⟩)
    (c6 : PySem.W.codeIn K cd6 "in_normal_form" = true)
    (k6 : PySem.W.keepIn K (.ref f6) = true)
    (a7 : PySem.W.nsIn K mainGlobals "normal_form" = some (some (.ref f7)))
    (l7 : K.lookup f7 = some ⟨oc7, od7, .func (PySem.W.fnOf "normal_form" "normal_form" (defArgs s_normal_form) (defBody s_normal_form) (defScope s_normal_form) .none kV7 dc7 pm7 an7 cd7 ct7), sl7⟩)
    (c7 : PySem.W.codeIn K cd7 "normal_form" = true)
    (k7 : PySem.W.keepIn K (.ref f7) = true)
    (a8 : PySem.W.nsIn K mainGlobals "is_assignment" = some (some (.ref f8)))
    (l8 : K.lookup f8 = some ⟨oc8, od8, .func (PySem.W.fnOf "is_assignment" "is_assignment" (defArgs s_is_assignment) (defBody s_is_assignment) (defScope s_is_assignment) .none kV8 dc8 pm8 an8 cd8 ct8), sl8⟩)
    (c8 : PySem.W.codeIn K cd8 "is_assignment" = true)
    (k8 : PySem.W.keepIn K (.ref f8) = true)
    (a9 : PySem.W.nsIn K mainGlobals "put_together" = some (some (.ref f9)))
    (l9 : K.lookup f9 = some ⟨oc9, od9, .func (PySem.W.fnOf "put_together" "put_together" (defArgs s_put_together) (defBody s_put_together) (defScope s_put_together) .none kV9 dc9 pm9 an9 cd9 ct9), sl9⟩)
    (c9 : PySem.W.codeIn K cd9 "put_together" = true)
    (k9 : PySem.W.keepIn K (.ref f9) = true)
    (a10 : PySem.W.nsIn K mainGlobals "value_of" = some (some (.ref f10)))
    (l10 : K.lookup f10 = some ⟨oc10, od10, .func (PySem.W.fnOf "value_of" "value_of" (defArgs s_value_of) (defBody s_value_of) (defScope s_value_of) .none kV10 dc10 pm10 an10 cd10 ct10), sl10⟩)
    (c10 : PySem.W.codeIn K cd10 "value_of" = true)
    (k10 : PySem.W.keepIn K (.ref f10) = true)
    (a11 : PySem.W.nsIn K mainGlobals "_law_open" = some (some (.ref f11)))
    (l11 : K.lookup f11 = some ⟨oc11, od11, .func (PySem.W.fnOf "_law_open" "_law_open" (defArgs s_law_open) (defBody s_law_open) (defScope s_law_open) .none kV11 dc11 pm11 an11 cd11 ct11), sl11⟩)
    (c11 : PySem.W.codeIn K cd11 "_law_open" = true)
    (k11 : PySem.W.keepIn K (.ref f11) = true)
    (a12 : PySem.W.nsIn K mainGlobals "_law_anew" = some (some (.ref f12)))
    (l12 : K.lookup f12 = some ⟨oc12, od12, .func (PySem.W.fnOf "_law_anew" "_law_anew" (defArgs s_law_anew) (defBody s_law_anew) (defScope s_law_anew) .none kV12 dc12 pm12 an12 cd12 ct12), sl12⟩)
    (c12 : PySem.W.codeIn K cd12 "_law_anew" = true)
    (k12 : PySem.W.keepIn K (.ref f12) = true)
    (a13 : PySem.W.nsIn K mainGlobals "_law_spread" = some (some (.ref f13)))
    (l13 : K.lookup f13 = some ⟨oc13, od13, .func (PySem.W.fnOf "_law_spread" "_law_spread" (defArgs s_law_spread) (defBody s_law_spread) (defScope s_law_spread) .none kV13 dc13 pm13 an13 cd13 ct13), sl13⟩)
    (c13 : PySem.W.codeIn K cd13 "_law_spread" = true)
    (k13 : PySem.W.keepIn K (.ref f13) = true)
    (a14 : PySem.W.nsIn K mainGlobals "_law_take" = some (some (.ref f14)))
    (l14 : K.lookup f14 = some ⟨oc14, od14, .func (PySem.W.fnOf "_law_take" "_law_take" (defArgs s_law_take) (defBody s_law_take) (defScope s_law_take) .none kV14 dc14 pm14 an14 cd14 ct14), sl14⟩)
    (c14 : PySem.W.codeIn K cd14 "_law_take" = true)
    (k14 : PySem.W.keepIn K (.ref f14) = true)
    (a15 : PySem.W.nsIn K mainGlobals "_law_one" = some (some (.ref f15)))
    (l15 : K.lookup f15 = some ⟨oc15, od15, .func (PySem.W.fnOf "_law_one" "_law_one" (defArgs s_law_one) (defBody s_law_one) (defScope s_law_one) .none kV15 dc15 pm15 an15 cd15 ct15), sl15⟩)
    (c15 : PySem.W.codeIn K cd15 "_law_one" = true)
    (k15 : PySem.W.keepIn K (.ref f15) = true)
    (a16 : PySem.W.nsIn K mainGlobals "_law_drawn" = some (some (.ref f16)))
    (l16 : K.lookup f16 = some ⟨oc16, od16, .func (PySem.W.fnOf "_law_drawn" "_law_drawn" (defArgs s_law_drawn) (defBody s_law_drawn) (defScope s_law_drawn) .none kV16 dc16 pm16 an16 cd16 ct16), sl16⟩)
    (c16 : PySem.W.codeIn K cd16 "_law_drawn" = true)
    (k16 : PySem.W.keepIn K (.ref f16) = true)
    (a17 : PySem.W.nsIn K mainGlobals "_law_pattern" = some (some (.ref f17)))
    (l17 : K.lookup f17 = some ⟨oc17, od17, .func (PySem.W.fnOf "_law_pattern" "_law_pattern" (defArgs s_law_pattern) (defBody s_law_pattern) (defScope s_law_pattern) .none kV17 dc17 pm17 an17 cd17 ct17), sl17⟩)
    (c17 : PySem.W.codeIn K cd17 "_law_pattern" = true)
    (k17 : PySem.W.keepIn K (.ref f17) = true)
    (a18 : PySem.W.nsIn K mainGlobals "_law_word" = some (some (.ref f18)))
    (l18 : K.lookup f18 = some ⟨oc18, od18, .func (PySem.W.fnOf "_law_word" "_law_word" (defArgs s_law_word) (defBody s_law_word) (defScope s_law_word) .none kV18 dc18 pm18 an18 cd18 ct18), sl18⟩)
    (c18 : PySem.W.codeIn K cd18 "_law_word" = true)
    (k18 : PySem.W.keepIn K (.ref f18) = true)
    (a19 : PySem.W.nsIn K mainGlobals "_law_letters" = some (some (.ref f19)))
    (l19 : K.lookup f19 = some ⟨oc19, od19, .func (PySem.W.fnOf "_law_letters" "_law_letters" (defArgs s_law_letters) (defBody s_law_letters) (defScope s_law_letters) .none kV19 dc19 pm19 an19 cd19 ct19), sl19⟩)
    (c19 : PySem.W.codeIn K cd19 "_law_letters" = true)
    (k19 : PySem.W.keepIn K (.ref f19) = true)
    (a20 : PySem.W.nsIn K mainGlobals "_law_nested" = some (some (.ref f20)))
    (l20 : K.lookup f20 = some ⟨oc20, od20, .func (PySem.W.fnOf "_law_nested" "_law_nested" (defArgs s_law_nested) (defBody s_law_nested) (defScope s_law_nested) .none kV20 dc20 pm20 an20 cd20 ct20), sl20⟩)
    (c20 : PySem.W.codeIn K cd20 "_law_nested" = true)
    (k20 : PySem.W.keepIn K (.ref f20) = true)
    (a21 : PySem.W.nsIn K mainGlobals "law" = some (some (.ref f21)))
    (l21 : K.lookup f21 = some ⟨oc21, od21, .func (PySem.W.fnOf "law" "law" (defArgs s_law) (defBody s_law) (defScope s_law) .none kV21 dc21 pm21 an21 cd21 ct21), sl21⟩)
    (c21 : PySem.W.codeIn K cd21 "law" = true)
    (k21 : PySem.W.keepIn K (.ref f21) = true)
    (z_CAPITALS : PySem.W.nsIn K mainGlobals "CAPITALS" = some (some (.str "ABCDEFGHIJKLMNOPQRSTUVWXYZ" t_CAPITALS)))
    (z_LONGEST_PATTERN : PySem.W.nsIn K mainGlobals "LONGEST_PATTERN" = some (some (.int 20 t_LONGEST_PATTERN)))
    (z_LONGEST_WORD : PySem.W.nsIn K mainGlobals "LONGEST_WORD" = some (some (.int 200 t_LONGEST_WORD)))
    (z_MOST_LETTERS : PySem.W.nsIn K mainGlobals "MOST_LETTERS" = some (some (.int 7 t_MOST_LETTERS)))
    (z_SMALL : PySem.W.nsIn K mainGlobals "SMALL" = some (some (.str "abcdefghijklmnopqrstuvwxyz" t_SMALL)))
    (z_dict : PySem.W.nsIn K mainGlobals "dict" = some none)
    (z_enumerate : PySem.W.nsIn K mainGlobals "enumerate" = some none)
    (z_int : PySem.W.nsIn K mainGlobals "int" = some none)
    (z_isinstance : PySem.W.nsIn K mainGlobals "isinstance" = some none)
    (z_len : PySem.W.nsIn K mainGlobals "len" = some none)
    (z_list : PySem.W.nsIn K mainGlobals "list" = some none)
    (z_range : PySem.W.nsIn K mainGlobals "range" = some none)
    (z_str : PySem.W.nsIn K mainGlobals "str" = some none)
    (z_tuple : PySem.W.nsIn K mainGlobals "tuple" = some none)
    (z_zip : PySem.W.nsIn K mainGlobals "zip" = some none)
    : ∃ fd : FuncData, (∀ (s : Shared) (v : Value), BindsTo s fd ⟨[v], []⟩ [("script", v)]) ∧ ∀ base : Heap, K.In base → base.Ns mainGlobals mg → FnOk l.prog w K mg base CX0 6 fa fd ["script"] (spTop K) := by
  have e := hfa.symm.trans (PySem.W.mg_of X G a21)
  cases e
  have F0 := fun_mk (st := s_has_only) l0 c0 k0
  have b0 := F0.binds (ps := ["text", "letters"]) fun _ _ _ _ _ _ us hl => match us, hl with | [_, _], _ => rfl
  have F1 := fun_mk (st := s_is_word) l1 c1 k1
  have b1 := F1.binds (ps := ["value"]) fun _ _ _ _ _ _ us hl => match us, hl with | [_], _ => rfl
  have F2 := fun_mk (st := s_distinct) l2 c2 k2
  have b2 := F2.binds (ps := ["text"]) fun _ _ _ _ _ _ us hl => match us, hl with | [_], _ => rfl
  have F3 := fun_mk (st := s_is_pattern) l3 c3 k3
  have b3 := F3.binds (ps := ["value"]) fun _ _ _ _ _ _ us hl => match us, hl with | [_], _ => rfl
  have F4 := fun_mk (st := s_need_pattern) l4 c4 k4
  have b4 := F4.binds (ps := ["value"]) fun _ _ _ _ _ _ us hl => match us, hl with | [_], _ => rfl
  have F5 := fun_mk (st := s_letters_of) l5 c5 k5
  have b5 := F5.binds (ps := ["pattern"]) fun _ _ _ _ _ _ us hl => match us, hl with | [_], _ => rfl
  have F6 := fun_mk (st := s_in_normal_form) l6 c6 k6
  have b6 := F6.binds (ps := ["pattern"]) fun _ _ _ _ _ _ us hl => match us, hl with | [_], _ => rfl
  have F7 := fun_mk (st := s_normal_form) l7 c7 k7
  have b7 := F7.binds (ps := ["pattern"]) fun _ _ _ _ _ _ us hl => match us, hl with | [_], _ => rfl
  have F8 := fun_mk (st := s_is_assignment) l8 c8 k8
  have b8 := F8.binds (ps := ["pattern", "value"]) fun _ _ _ _ _ _ us hl => match us, hl with | [_, _], _ => rfl
  have F9 := fun_mk (st := s_put_together) l9 c9 k9
  have b9 := F9.binds (ps := ["pattern", "assignment"]) fun _ _ _ _ _ _ us hl => match us, hl with | [_, _], _ => rfl
  have F10 := fun_mk (st := s_value_of) l10 c10 k10
  have b10 := F10.binds (ps := ["pattern", "assignment"]) fun _ _ _ _ _ _ us hl => match us, hl with | [_, _], _ => rfl
  have F11 := fun_mk (st := s_law_open) l11 c11 k11
  have b11 := F11.binds (ps := ["script"]) fun _ _ _ _ _ _ us hl => match us, hl with | [_], _ => rfl
  have F12 := fun_mk (st := s_law_anew) l12 c12 k12
  have b12 := F12.binds (ps := ["pen"]) fun _ _ _ _ _ _ us hl => match us, hl with | [_], _ => rfl
  have F13 := fun_mk (st := s_law_spread) l13 c13 k13
  have b13 := F13.binds (ps := ["cell", "at"]) fun _ _ _ _ _ _ us hl => match us, hl with | [_, _], _ => rfl
  have F14 := fun_mk (st := s_law_take) l14 c14 k14
  have b14 := F14.binds (ps := ["pen", "many"]) fun _ _ _ _ _ _ us hl => match us, hl with | [_, _], _ => rfl
  have F15 := fun_mk (st := s_law_one) l15 c15 k15
  have b15 := F15.binds (ps := ["pen", "some"]) fun _ _ _ _ _ _ us hl => match us, hl with | [_, _], _ => rfl
  have F16 := fun_mk (st := s_law_drawn) l16 c16 k16
  have b16 := F16.binds (ps := ["pen", "many"]) fun _ _ _ _ _ _ us hl => match us, hl with | [_, _], _ => rfl
  have F17 := fun_mk (st := s_law_pattern) l17 c17 k17
  have b17 := F17.binds (ps := ["pen", "most", "many"]) fun _ _ _ _ _ _ us hl => match us, hl with | [_, _, _], _ => rfl
  have F18 := fun_mk (st := s_law_word) l18 c18 k18
  have b18 := F18.binds (ps := ["pen", "size", "many"]) fun _ _ _ _ _ _ us hl => match us, hl with | [_, _, _], _ => rfl
  have F19 := fun_mk (st := s_law_letters) l19 c19 k19
  have b19 := F19.binds (ps := ["pattern"]) fun _ _ _ _ _ _ us hl => match us, hl with | [_], _ => rfl
  have F20 := fun_mk (st := s_law_nested) l20 c20 k20
  have b20 := F20.binds (ps := ["pen"]) fun _ _ _ _ _ _ us hl => match us, hl with | [_], _ => rfl
  have F21 := fun_mk (st := s_law) l21 c21 k21
  have b21 := F21.binds (ps := ["script"]) fun _ _ _ _ _ _ us hl => match us, hl with | [_], _ => rfl
  have T : Txt K mg { f_has_only := f0, d_has_only := _, f_is_word := f1, d_is_word := _, f_distinct := f2, d_distinct := _, f_is_pattern := f3, d_is_pattern := _, f_need_pattern := f4, d_need_pattern := _, f_letters_of := f5, d_letters_of := _, f_in_normal_form := f6, d_in_normal_form := _, f_normal_form := f7, d_normal_form := _, f_is_assignment := f8, d_is_assignment := _, f_put_together := f9, d_put_together := _, f_value_of := f10, d_value_of := _, f_law_open := f11, d_law_open := _, f_law_anew := f12, d_law_anew := _, f_law_spread := f13, d_law_spread := _, f_law_take := f14, d_law_take := _, f_law_one := f15, d_law_one := _, f_law_drawn := f16, d_law_drawn := _, f_law_pattern := f17, d_law_pattern := _, f_law_word := f18, d_law_word := _, f_law_letters := f19, d_law_letters := _, f_law_nested := f20, d_law_nested := _, f_law := fa, d_law := _, t_CAPITALS := t_CAPITALS, t_LONGEST_PATTERN := t_LONGEST_PATTERN, t_LONGEST_WORD := t_LONGEST_WORD, t_MOST_LETTERS := t_MOST_LETTERS, t_SMALL := t_SMALL } := { F_has_only := F0, g_has_only := PySem.W.mg_of X G a0, b_has_only := b0, F_is_word := F1, g_is_word := PySem.W.mg_of X G a1, b_is_word := b1, F_distinct := F2, g_distinct := PySem.W.mg_of X G a2, b_distinct := b2, F_is_pattern := F3, g_is_pattern := PySem.W.mg_of X G a3, b_is_pattern := b3, F_need_pattern := F4, g_need_pattern := PySem.W.mg_of X G a4, b_need_pattern := b4, F_letters_of := F5, g_letters_of := PySem.W.mg_of X G a5, b_letters_of := b5, F_in_normal_form := F6, g_in_normal_form := PySem.W.mg_of X G a6, b_in_normal_form := b6, F_normal_form := F7, g_normal_form := PySem.W.mg_of X G a7, b_normal_form := b7, F_is_assignment := F8, g_is_assignment := PySem.W.mg_of X G a8, b_is_assignment := b8, F_put_together := F9, g_put_together := PySem.W.mg_of X G a9, b_put_together := b9, F_value_of := F10, g_value_of := PySem.W.mg_of X G a10, b_value_of := b10, F_law_open := F11, g_law_open := PySem.W.mg_of X G a11, b_law_open := b11, F_law_anew := F12, g_law_anew := PySem.W.mg_of X G a12, b_law_anew := b12, F_law_spread := F13, g_law_spread := PySem.W.mg_of X G a13, b_law_spread := b13, F_law_take := F14, g_law_take := PySem.W.mg_of X G a14, b_law_take := b14, F_law_one := F15, g_law_one := PySem.W.mg_of X G a15, b_law_one := b15, F_law_drawn := F16, g_law_drawn := PySem.W.mg_of X G a16, b_law_drawn := b16, F_law_pattern := F17, g_law_pattern := PySem.W.mg_of X G a17, b_law_pattern := b17, F_law_word := F18, g_law_word := PySem.W.mg_of X G a18, b_law_word := b18, F_law_letters := F19, g_law_letters := PySem.W.mg_of X G a19, b_law_letters := b19, F_law_nested := F20, g_law_nested := PySem.W.mg_of X G a20, b_law_nested := b20, F_law := F21, g_law := PySem.W.mg_of X G a21, b_law := b21, g_CAPITALS := PySem.W.mg_of X G z_CAPITALS, g_LONGEST_PATTERN := PySem.W.mg_of X G z_LONGEST_PATTERN, g_LONGEST_WORD := PySem.W.mg_of X G z_LONGEST_WORD, g_MOST_LETTERS := PySem.W.mg_of X G z_MOST_LETTERS, g_SMALL := PySem.W.mg_of X G z_SMALL, dict := PySem.W.mg_none_of X G z_dict, enumerate := PySem.W.mg_none_of X G z_enumerate, int := PySem.W.mg_none_of X G z_int, isinstance := PySem.W.mg_none_of X G z_isinstance, len := PySem.W.mg_none_of X G z_len, list := PySem.W.mg_none_of X G z_list, range := PySem.W.mg_none_of X G z_range, str := PySem.W.mg_none_of X G z_str, tuple := PySem.W.mg_none_of X G z_tuple, zip := PySem.W.mg_none_of X G z_zip }
  exact ⟨_, fun s v => .of_eq rfl, fun base _ _ => ok_law T⟩
end Lw
open PySem PySem.W PyProof.Rows
set_option maxRecDepth 100000 in
set_option maxHeartbeats 0 in
theorem PySem.Challenge.cw_surepatterns_k04_whole_values_of_values_holds : PySem.Challenge.rw_surepatterns_k04_whole_values_of_values.Holds := by
  w_on; o_law; k_head; (case hw => w_witness2)
  k_fill
  refine L2.walk_of (l := PySem.Challenge.rw_surepatterns_k04_whole_values_of_values) (n := 63) (k := 6) (x := "script") (CX := fun _ => L2.CX0) (sp := fun w => Lw.spTop _) rfl (by decide) rfl ⟨rfl, by decide, by decide⟩ (fun w h Y => PySem.W.kIn_of Y) ?F (fun _ _ a ns hl _ hS => ⟨a, ns, rfl, hS, hl, fun _ => rfl⟩) (fun _ _ _ _ _ h => h)
  case F =>
    intro w mg fa h KX G hmg
    refine' Lw.all_mk KX G hmg ?a0 ?l0 ?c0 ?k0 ?a1 ?l1 ?c1 ?k1 ?a2 ?l2 ?c2 ?k2 ?a3 ?l3 ?c3 ?k3 ?a4 ?l4 ?c4 ?k4 ?a5 ?l5 ?c5 ?k5 ?a6 ?l6 ?c6 ?k6 ?a7 ?l7 ?c7 ?k7 ?a8 ?l8 ?c8 ?k8 ?a9 ?l9 ?c9 ?k9 ?a10 ?l10 ?c10 ?k10 ?a11 ?l11 ?c11 ?k11 ?a12 ?l12 ?c12 ?k12 ?a13 ?l13 ?c13 ?k13 ?a14 ?l14 ?c14 ?k14 ?a15 ?l15 ?c15 ?k15 ?a16 ?l16 ?c16 ?k16 ?a17 ?l17 ?c17 ?k17 ?a18 ?l18 ?c18 ?k18 ?a19 ?l19 ?c19 ?k19 ?a20 ?l20 ?c20 ?k20 ?a21 ?l21 ?c21 ?k21 ?z_CAPITALS ?z_LONGEST_PATTERN ?z_LONGEST_WORD ?z_MOST_LETTERS ?z_SMALL ?z_dict ?z_enumerate ?z_int ?z_isinstance ?z_len ?z_list ?z_range ?z_str ?z_tuple ?z_zip
    (case a0 => k_is)
    (case l0 => k_is)
    (case c0 => k_is)
    (case k0 => k_is)
    (case a1 => k_is)
    (case l1 => k_is)
    (case c1 => k_is)
    (case k1 => k_is)
    (case a2 => k_is)
    (case l2 => k_is)
    (case c2 => k_is)
    (case k2 => k_is)
    (case a3 => k_is)
    (case l3 => k_is)
    (case c3 => k_is)
    (case k3 => k_is)
    (case a4 => k_is)
    (case l4 => k_is)
    (case c4 => k_is)
    (case k4 => k_is)
    (case a5 => k_is)
    (case l5 => k_is)
    (case c5 => k_is)
    (case k5 => k_is)
    (case a6 => k_is)
    (case l6 => k_is)
    (case c6 => k_is)
    (case k6 => k_is)
    (case a7 => k_is)
    (case l7 => k_is)
    (case c7 => k_is)
    (case k7 => k_is)
    (case a8 => k_is)
    (case l8 => k_is)
    (case c8 => k_is)
    (case k8 => k_is)
    (case a9 => k_is)
    (case l9 => k_is)
    (case c9 => k_is)
    (case k9 => k_is)
    (case a10 => k_is)
    (case l10 => k_is)
    (case c10 => k_is)
    (case k10 => k_is)
    (case a11 => k_is)
    (case l11 => k_is)
    (case c11 => k_is)
    (case k11 => k_is)
    (case a12 => k_is)
    (case l12 => k_is)
    (case c12 => k_is)
    (case k12 => k_is)
    (case a13 => k_is)
    (case l13 => k_is)
    (case c13 => k_is)
    (case k13 => k_is)
    (case a14 => k_is)
    (case l14 => k_is)
    (case c14 => k_is)
    (case k14 => k_is)
    (case a15 => k_is)
    (case l15 => k_is)
    (case c15 => k_is)
    (case k15 => k_is)
    (case a16 => k_is)
    (case l16 => k_is)
    (case c16 => k_is)
    (case k16 => k_is)
    (case a17 => k_is)
    (case l17 => k_is)
    (case c17 => k_is)
    (case k17 => k_is)
    (case a18 => k_is)
    (case l18 => k_is)
    (case c18 => k_is)
    (case k18 => k_is)
    (case a19 => k_is)
    (case l19 => k_is)
    (case c19 => k_is)
    (case k19 => k_is)
    (case a20 => k_is)
    (case l20 => k_is)
    (case c20 => k_is)
    (case k20 => k_is)
    (case a21 => k_is)
    (case l21 => k_is)
    (case c21 => k_is)
    (case k21 => k_is)
    (case z_CAPITALS => k_is)
    (case z_LONGEST_PATTERN => k_is)
    (case z_LONGEST_WORD => k_is)
    (case z_MOST_LETTERS => k_is)
    (case z_SMALL => k_is)
    (case z_dict => k_is)
    (case z_enumerate => k_is)
    (case z_int => k_is)
    (case z_isinstance => k_is)
    (case z_len => k_is)
    (case z_list => k_is)
    (case z_range => k_is)
    (case z_str => k_is)
    (case z_tuple => k_is)
    (case z_zip => k_is)
