import Derived.Test.YtdcnkebcpaelpaaGreatDoorNum
import Derived.Test.YtdcnkebcpaelpaaGreatDoorRefs
/- Differences in the form of numbers. -/
namespace Go.Proofs.YtdcnkebcpaelpaaGreatDoor
open Go.RowKit

theorem rSub_num {ao bo : Option Addr} {n m ca cb N M : Nat} {w : World} (ha : Num w ao n ca N) (hb : Num w bo m cb M) (hle : M ≤ N) :
    Calls Tryz.prog 34 #[.slice ao n ca, .slice bo m cb] w fun e w' => ∃ ao' cap', e = .returned (.tuple #[.slice ao' (dig (N - M)).length cap', .bool true]) ∧ Fr w.heap.size w' ao' cap' (dig (N - M)) ∧ Below w.heap.size w w' := by
  obtain ⟨xs, rfl, h1, rfl, h2⟩ := ha
  obtain ⟨ys, rfl, h3, rfl, h4⟩ := hb
  exact rSub_any ao bo ca cb xs ys w h1 h3 hle h2
theorem Sub_less_num {ao bo : Option Addr} {n m ca cb N M : Nat} {w : World} (ha : Num w ao n ca N) (hb : Num w bo m cb M) (hlt : N < M) :
    Calls Tryz.prog 48 #[.slice ao n ca, .slice bo m cb] w fun e w' => e = .returned (.tuple #[.slice none 0 0, .bool false]) ∧ w = w' := by
  obtain ⟨xs, rfl, h1, rfl, h2⟩ := ha
  obtain ⟨ys, rfl, h3, rfl, h4⟩ := hb
  exact Sub_less ao bo ca cb xs ys w h1 h3 hlt
theorem rSub_less_num {ao bo : Option Addr} {n m ca cb N M : Nat} {w : World} (ha : Num w ao n ca N) (hb : Num w bo m cb M) (hlt : N < M) :
    Calls Tryz.prog 34 #[.slice ao n ca, .slice bo m cb] w fun e w' => e = .returned (.tuple #[.slice none 0 0, .bool false]) ∧ Below w.heap.size w w' := by
  obtain ⟨xs, rfl, h1, rfl, h2⟩ := ha
  obtain ⟨ys, rfl, h3, rfl, h4⟩ := hb
  exact rSub_less ao bo ca cb xs ys w h1 h3 hlt
theorem Sub_numD {ao bo : Option Addr} {n m ca cb N M D : Nat} {w : World} (ha : Num w ao n ca N) (hb : Num w bo m cb M) (hle : M ≤ N) (hD : N - M = D) :
    Calls Tryz.prog 48 #[.slice ao n ca, .slice bo m cb] w fun e w' => ∃ ao' cap', e = .returned (.tuple #[.slice ao' (dig D).length cap', .bool true]) ∧ Fr w.heap.size w' ao' cap' (dig D) ∧ Below w.heap.size w w' := by
  subst hD; exact Sub_num ha hb hle
theorem Same_nil (w : World) : Calls Tryz.prog 29 #[.slice none 0 0, .slice none 0 0] w fun e w' => e = .returned (.bool true) ∧ Below w.heap.size w w' := Same_eq none none 0 0 [] w (Rd.nil w) (Rd.nil w)
end Go.Proofs.YtdcnkebcpaelpaaGreatDoor
/- Products in the form of numbers; their bits. -/
namespace Go.Proofs.YtdcnkebcpaelpaaGreatDoor
open Go.RowKit

theorem rMul_num {ao bo : Option Addr} {n m ca cb N M : Nat} {w : World} (ha : Num w ao n ca N) (hb : Num w bo m cb M) : Calls Tryz.prog 30 #[.slice ao n ca, .slice bo m cb] w (Makes (N * M) w) := by
  obtain ⟨xs, rfl, h1, rfl, h2⟩ := ha
  obtain ⟨ys, rfl, h3, rfl, h4⟩ := hb
  exact rMul_any ao bo ca cb xs ys w h1 h3 h2 h4
theorem bl_mul {A B : Nat} (ha : 0 < A) (hb : 0 < B) : bl (A * B) = bl A + bl B ∨ bl (A * B) = bl A + bl B - 1 := by
  have a0 := bl_pos ha
  have b0 := bl_pos hb
  have h1 : A * B < 2 ^ (bl A + bl B) := by rw [Nat.pow_add]; exact Nat.mul_lt_mul_of_lt_of_le (bl_self A) (Nat.le_of_lt (bl_self B)) (Nat.pow_pos (by omega))
  have h2 : 2 ^ (bl A - 1 + (bl B - 1)) ≤ A * B := by rw [Nat.pow_add]; exact Nat.mul_le_mul (bl_low a0) (bl_low b0)
  have h3 := bl_le.2 h1
  have h4 := bl_lt.2 h2
  omega
theorem bl_cases (A B : Nat) : ∃ m n t, bl A = m ∧ bl B = n ∧ bl (A * B) = t ∧ ((m = 0 ∧ t = 0) ∨ (0 < m ∧ n = 0 ∧ t = 0) ∨ (0 < m ∧ 0 < n ∧ t = m + n) ∨ (0 < m ∧ 0 < n ∧ t = m + n - 1)) := by
  refine ⟨_, _, _, rfl, rfl, rfl, ?_⟩
  rcases Nat.eq_zero_or_pos A with h | h
  · subst h; left; exact ⟨rfl, by rw [Nat.zero_mul]; rfl⟩
  · rcases Nat.eq_zero_or_pos B with k | k
    · subst k; right; left; exact ⟨bl_pos h, rfl, by rw [Nat.mul_zero]; rfl⟩
    · rcases bl_mul h k with e | e
      · exact .inr (.inr (.inl ⟨bl_pos h, bl_pos k, e⟩))
      · exact .inr (.inr (.inr ⟨bl_pos h, bl_pos k, e⟩))
theorem bits_of {N k : Nat} (h : Sm N k) : bl N ≤ 32 * k := bl_le.2 (by rw [← pw_two]; exact h.1)
theorem bits_40 {N : Nat} (h : Sm N 40) : bl N ≤ 1280 := bits_of h
/-- a number cut to k limbs, as the walk spells its length -/
theorem cut_num {ao : Option Addr} {cap k : Nat} {xs : List Nat} {w : World} (h : Rd w ao cap xs) (hk : k ≤ 1000) :
    ∃ N, ((xs.length ≤ k ∧ Num w ao xs.length cap N) ∨ (k < xs.length ∧ Num w ao k cap N)) ∧ Sm N k := by
  have h2 := h.take k
  have hl := List.length_take_le k xs
  refine ⟨val (xs.take k), ?_, Nat.lt_of_lt_of_le (val_lt h2.lims) (pw_mono hl), by omega⟩
  rcases Nat.lt_or_ge k xs.length with e | e
  · right; refine ⟨e, ?_⟩
    have := Num.of_rd h2 (by omega)
    rwa [List.length_take, Nat.min_eq_left (by omega)] at this
  · left; refine ⟨e, ?_⟩
    have := Num.of_rd h2 (by omega)
    rwa [List.length_take, Nat.min_eq_right e] at this
theorem cut_min {ao : Option Addr} {cap k : Nat} {xs : List Nat} {w : World} (h : Rd w ao cap xs) (hk : k ≤ 1000) (z : Int) (hz : z = k) :
    ∃ N, Num w ao (min ((xs.length : Nat) : Int) z).toNat cap N ∧ Sm N k := by
  subst hz
  obtain ⟨N, h1, h2⟩ := cut_num h hk
  refine ⟨N, ?_, h2⟩
  rcases h1 with ⟨e, h1⟩ | ⟨e, h1⟩
  · rwa [show (min ((xs.length : Nat) : Int) (k : Int)).toNat = xs.length by omega]
  · rwa [show (min ((xs.length : Nat) : Int) (k : Int)).toNat = k by omega]
end Go.Proofs.YtdcnkebcpaelpaaGreatDoor
