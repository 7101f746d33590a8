import Derived.Test.YtdcnkebcpaelpaaGreatDoorAwake
import Derived.Test.YtdcnkebcpaelpaaGreatDoorRef3
/- Slices that stand for numbers: the contracts in this form. -/
namespace Go.Proofs.YtdcnkebcpaelpaaGreatDoor
open Go.RowKit

/-- the slice (ao, n, cap) stands for N -/
def Num (w : World) (ao : Option Addr) (n cap N : Nat) : Prop := ∃ xs : List Nat, n = xs.length ∧ Rd w ao cap xs ∧ val xs = N ∧ xs.length ≤ 549755813888
theorem Num.below {w w' : World} {ao : Option Addr} {n cap N : Nat} (h : Num w ao n cap N) (hb : Below w.heap.size w w') : Num w' ao n cap N := by
  obtain ⟨xs, h1, h2, h3, h4⟩ := h
  exact ⟨xs, h1, h2.below hb, h3, h4⟩
theorem Num.of_rd {w : World} {ao : Option Addr} {cap : Nat} {xs : List Nat} (h : Rd w ao cap xs) (hl : xs.length ≤ 549755813888) : Num w ao xs.length cap (val xs) := ⟨xs, rfl, h, rfl, hl⟩
/-- of so many limbs at most -/
def Sm (N k : Nat) : Prop := N < pw k ∧ k ≤ 549755813888
theorem Sm.len {N k : Nat} (h : Sm N k) : (dig N).length ≤ 549755813888 := Nat.le_trans (dig_length_le N k h.1) h.2
theorem Sm.add {N M k l : Nat} (h : Sm N k) (h2 : Sm M l) (hk : k + l + 1 ≤ 549755813888) : Sm (N + M) (k + l + 1) := by
  refine ⟨?_, hk⟩
  rw [pw_succ]
  have h3 := Nat.lt_of_lt_of_le h.1 (pw_mono (show k ≤ k + l by omega))
  have h4 := Nat.lt_of_lt_of_le h2.1 (pw_mono (show l ≤ k + l by omega))
  omega
theorem Sm.mul {N M k l : Nat} (h : Sm N k) (h2 : Sm M l) (hk : k + l ≤ 549755813888) : Sm (N * M) (k + l) := by
  refine ⟨?_, hk⟩
  rw [pw_add]
  exact Nat.mul_lt_mul_of_lt_of_le h.1 (Nat.le_of_lt h2.1) (pw_pos l)
theorem Sm.of_le {N M k : Nat} (h : Sm N k) (hM : M ≤ N) : Sm M k := ⟨Nat.lt_of_le_of_lt hM h.1, h.2⟩
theorem Num.of_fr {B : Nat} {w : World} {ao : Option Addr} {cap N k : Nat} (h : Fr B w ao cap (dig N)) (hs : Sm N k) : Num w ao (dig N).length cap N := ⟨dig N, rfl, h.rd, val_dig N, hs.len⟩

/-- what a function that makes a number gives -/
def Makes (N : Nat) (w : World) (e : Ending) (w' : World) : Prop := ∃ ao cap, e = .returned (.slice ao (dig N).length cap) ∧ Fr w.heap.size w' ao cap (dig N) ∧ Below w.heap.size w w'

theorem Add_num {ao bo : Option Addr} {n m ca cb N M : Nat} {w : World} (ha : Num w ao n ca N) (hb : Num w bo m cb M) : Calls Tryz.prog 47 #[.slice ao n ca, .slice bo m cb] w (Makes (N + M) w) := by
  obtain ⟨xs, rfl, h1, rfl, h2⟩ := ha
  obtain ⟨ys, rfl, h3, rfl, h4⟩ := hb
  exact Add_any ao bo ca cb xs ys w h1 h3 (by omega) (by omega)
theorem rAdd_num {ao bo : Option Addr} {n m ca cb N M : Nat} {w : World} (ha : Num w ao n ca N) (hb : Num w bo m cb M) : Calls Tryz.prog 33 #[.slice ao n ca, .slice bo m cb] w (Makes (N + M) w) := by
  obtain ⟨xs, rfl, h1, rfl, h2⟩ := ha
  obtain ⟨ys, rfl, h3, rfl, h4⟩ := hb
  exact rAdd_any ao bo ca cb xs ys w h1 h3 h2 h4
theorem Mul_num {ao bo : Option Addr} {n m ca cb N M : Nat} {w : World} (ha : Num w ao n ca N) (hb : Num w bo m cb M) : Calls Tryz.prog 19 #[.slice ao n ca, .slice bo m cb] w (Makes (N * M) w) := by
  obtain ⟨xs, rfl, h1, rfl, h2⟩ := ha
  obtain ⟨ys, rfl, h3, rfl, h4⟩ := hb
  exact Mul_any ao bo ca cb xs ys w h1 h3 h2 h4
theorem Trim_num {ao : Option Addr} {n ca N : Nat} {w : World} (ha : Num w ao n ca N) : Calls Tryz.prog 45 #[.slice ao n ca] w (Makes N w) := by
  obtain ⟨xs, rfl, h1, rfl, h2⟩ := ha
  exact Trim_any ao ca xs w h1 (by omega)
theorem rTrim_num {ao : Option Addr} {n ca N : Nat} {w : World} (ha : Num w ao n ca N) : Calls Tryz.prog 50 #[.slice ao n ca] w (Makes N w) := by
  obtain ⟨xs, rfl, h1, rfl, h2⟩ := ha
  exact rTrim_any ao ca xs w h1 (by omega)
theorem Sub_num {ao bo : Option Addr} {n m ca cb N M : Nat} {w : World} (ha : Num w ao n ca N) (hb : Num w bo m cb M) (hle : M ≤ N) :
    Calls Tryz.prog 48 #[.slice ao n ca, .slice bo m cb] w fun e w' => ∃ ao' cap', e = .returned (.tuple #[.slice ao' (dig (N - M)).length cap', .bool true]) ∧ Fr w.heap.size w' ao' cap' (dig (N - M)) ∧ Below w.heap.size w w' := by
  obtain ⟨xs, rfl, h1, rfl, h2⟩ := ha
  obtain ⟨ys, rfl, h3, rfl, h4⟩ := hb
  exact Sub_any ao bo ca cb xs ys w h1 h3 hle (by omega)
theorem Compare_num {ao bo : Option Addr} {n m ca cb N M : Nat} {w : World} (ha : Num w ao n ca N) (hb : Num w bo m cb M) : Calls Tryz.prog 58 #[.slice ao n ca, .slice bo m cb] w fun e w' => e = .returned (.int .i64 (cmpn N M)) ∧ w = w' := by
  obtain ⟨xs, rfl, h1, rfl, h2⟩ := ha
  obtain ⟨ys, rfl, h3, rfl, h4⟩ := hb
  exact Compare_any ao bo ca cb xs ys w h1 h3
theorem rCompare_num {ao bo : Option Addr} {n m ca cb N M : Nat} {w : World} (ha : Num w ao n ca N) (hb : Num w bo m cb M) : Calls Tryz.prog 53 #[.slice ao n ca, .slice bo m cb] w fun e w' => e = .returned (.int .i64 (cmpn N M)) ∧ Below w.heap.size w w' := by
  obtain ⟨xs, rfl, h1, rfl, h2⟩ := ha
  obtain ⟨ys, rfl, h3, rfl, h4⟩ := hb
  exact rCompare_any ao bo ca cb xs ys w h1 h3
theorem Bits_num {ao : Option Addr} {n ca N : Nat} {w : World} (ha : Num w ao n ca N) : Calls Tryz.prog 23 #[.slice ao n ca] w fun e w' => e = .returned (.int .i64 ((bl N : Nat) : Int)) ∧ w = w' := by
  obtain ⟨xs, rfl, h1, rfl, h2⟩ := ha
  exact Bits_any ao ca xs w h1 (by omega)
/-- two results that stand for one number are the same -/
theorem Same_num {B B' : Nat} {ao bo : Option Addr} {ca cb N M : Nat} {w : World} (ha : Fr B w ao ca (dig N)) (hb : Fr B' w bo cb (dig M)) (h : N = M) : Calls Tryz.prog 29 #[.slice ao (dig N).length ca, .slice bo (dig M).length cb] w fun e w' => e = .returned (.bool true) ∧ Below w.heap.size w w' := by
  subst h
  exact Same_eq ao bo ca cb (dig N) w ha.rd hb.rd

set_option maxHeartbeats 400000 in
theorem Cut_any (ao : Option Addr) (cap : Nat) (xs ys : List Nat) (w : World) (h : Rd w ao cap xs) (hy : ys = xs.take 12) :
    Calls Tryz.prog 16 #[.slice ao xs.length cap] w fun e w' => e = .returned (.slice ao ys.length cap) ∧ w = w' := by
  have hl : ys.length = min 12 xs.length := by rw [hy, List.length_take]
  have hm := h.max
  have hle := h.le
  have L := Lib.hid hl
  clear hl hy
  go_enter Tryz.func16, Tryz.ntmps16
  go_wp2
  all_goals
    go_ret
    exact ⟨ret_len (by have := L.out; omega), rfl⟩
theorem Cut_num {ao : Option Addr} {cap : Nat} {xs ys : List Nat} {w : World} (h : Rd w ao cap xs) (hy : ys = xs.take 12) : Num w ao ys.length cap (val ys) ∧ Sm (val ys) 12 := by
  have hl : ys.length ≤ 12 := by rw [hy, List.length_take]; omega
  have h2 : Rd w ao cap ys := by rw [hy]; exact h.take 12
  exact ⟨Num.of_rd h2 (by omega), Nat.lt_of_lt_of_le (val_lt h2.lims) (pw_mono hl), by omega⟩

end Go.Proofs.YtdcnkebcpaelpaaGreatDoor
