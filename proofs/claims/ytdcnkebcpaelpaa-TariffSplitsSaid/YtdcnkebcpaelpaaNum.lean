import Derived.Test.YtdcnkebcpaelpaaAwake
import Derived.Test.YtdcnkebcpaelpaaRefA
/- Slices that stand for numbers: the contracts in this form. -/
namespace Go.Proofs.Ytdcnkebcpaelpaa
open Go.RowKit

/-- the slice (ao, n, cap) stands for N -/
def Num (w : World) (ao : Option Addr) (n cap N : Nat) : Prop := ∃ xs : List Nat, n = xs.length ∧ Rd w ao cap xs ∧ val xs = N ∧ xs.length ≤ 549755813888
theorem Num.below {w w' : World} {ao : Option Addr} {n cap N : Nat} (h : Num w ao n cap N) (hb : Below w.heap.size w w') : Num w' ao n cap N := by
  obtain ⟨xs, h1, h2, h3, h4⟩ := h
  exact ⟨xs, h1, h2.below hb, h3, h4⟩
theorem Num.of_rd {w : World} {ao : Option Addr} {cap : Nat} {xs : List Nat} (h : Rd w ao cap xs) (hl : xs.length ≤ 549755813888) : Num w ao xs.length cap (val xs) := ⟨xs, rfl, h, rfl, hl⟩
/-- of so many limbs at most -/
def Sm (N k : Nat) : Prop := N < pw k ∧ k ≤ 549755813888
theorem Sm.len {N k : Nat} (h : Sm N k) : (dig N).length ≤ 549755813888 := Nat.le_trans (dig_length_le N k h.1) h.2
theorem Sm.add {N M k l : Nat} (h : Sm N k) (h2 : Sm M l) (hk : k + l + 1 ≤ 549755813888) : Sm (N + M) (k + l + 1) := by
  refine ⟨?_, hk⟩
  rw [pw_succ]
  have h3 := Nat.lt_of_lt_of_le h.1 (pw_mono (show k ≤ k + l by omega))
  have h4 := Nat.lt_of_lt_of_le h2.1 (pw_mono (show l ≤ k + l by omega))
  omega
theorem Sm.mul {N M k l : Nat} (h : Sm N k) (h2 : Sm M l) (hk : k + l ≤ 549755813888) : Sm (N * M) (k + l) := by
  refine ⟨?_, hk⟩
  rw [pw_add]
  exact Nat.mul_lt_mul_of_lt_of_le h.1 (Nat.le_of_lt h2.1) (pw_pos l)
theorem Sm.of_le {N M k : Nat} (h : Sm N k) (hM : M ≤ N) : Sm M k := ⟨Nat.lt_of_le_of_lt hM h.1, h.2⟩
theorem Num.of_fr {B : Nat} {w : World} {ao : Option Addr} {cap N k : Nat} (h : Fr B w ao cap (dig N)) (hs : Sm N k) : Num w ao (dig N).length cap N := ⟨dig N, rfl, h.rd, val_dig N, hs.len⟩

/-- what a function that makes a number gives -/
def Makes (N : Nat) (w : World) (e : Ending) (w' : World) : Prop := ∃ ao cap, e = .returned (.slice ao (dig N).length cap) ∧ Fr w.heap.size w' ao cap (dig N) ∧ Below w.heap.size w w'

theorem Add_num {ao bo : Option Addr} {n m ca cb N M : Nat} {w : World} (ha : Num w ao n ca N) (hb : Num w bo m cb M) : Calls Try.prog 76 #[.slice ao n ca, .slice bo m cb] w (Makes (N + M) w) := by
  obtain ⟨xs, rfl, h1, rfl, h2⟩ := ha
  obtain ⟨ys, rfl, h3, rfl, h4⟩ := hb
  exact Add_any ao bo ca cb xs ys w h1 h3 (by omega) (by omega)
theorem rAdd_num {ao bo : Option Addr} {n m ca cb N M : Nat} {w : World} (ha : Num w ao n ca N) (hb : Num w bo m cb M) : Calls Try.prog 48 #[.slice ao n ca, .slice bo m cb] w (Makes (N + M) w) := by
  obtain ⟨xs, rfl, h1, rfl, h2⟩ := ha
  obtain ⟨ys, rfl, h3, rfl, h4⟩ := hb
  exact rAdd_any ao bo ca cb xs ys w h1 h3 h2 h4
theorem Mul_num {ao bo : Option Addr} {n m ca cb N M : Nat} {w : World} (ha : Num w ao n ca N) (hb : Num w bo m cb M) : Calls Try.prog 52 #[.slice ao n ca, .slice bo m cb] w (Makes (N * M) w) := by
  obtain ⟨xs, rfl, h1, rfl, h2⟩ := ha
  obtain ⟨ys, rfl, h3, rfl, h4⟩ := hb
  exact Mul_any ao bo ca cb xs ys w h1 h3 h2 h4
theorem Trim_num {ao : Option Addr} {n ca N : Nat} {w : World} (ha : Num w ao n ca N) : Calls Try.prog 79 #[.slice ao n ca] w (Makes N w) := by
  obtain ⟨xs, rfl, h1, rfl, h2⟩ := ha
  exact Trim_any ao ca xs w h1 (by omega)
theorem rTrim_num {ao : Option Addr} {n ca N : Nat} {w : World} (ha : Num w ao n ca N) : Calls Try.prog 54 #[.slice ao n ca] w (Makes N w) := by
  obtain ⟨xs, rfl, h1, rfl, h2⟩ := ha
  exact rTrim_any ao ca xs w h1 (by omega)
theorem Sub_num {ao bo : Option Addr} {n m ca cb N M : Nat} {w : World} (ha : Num w ao n ca N) (hb : Num w bo m cb M) (hle : M ≤ N) :
    Calls Try.prog 77 #[.slice ao n ca, .slice bo m cb] w fun e w' => ∃ ao' cap', e = .returned (.tuple #[.slice ao' (dig (N - M)).length cap', .bool true]) ∧ Fr w.heap.size w' ao' cap' (dig (N - M)) ∧ Below w.heap.size w w' := by
  obtain ⟨xs, rfl, h1, rfl, h2⟩ := ha
  obtain ⟨ys, rfl, h3, rfl, h4⟩ := hb
  exact Sub_any ao bo ca cb xs ys w h1 h3 hle (by omega)
theorem Compare_num {ao bo : Option Addr} {n m ca cb N M : Nat} {w : World} (ha : Num w ao n ca N) (hb : Num w bo m cb M) : Calls Try.prog 80 #[.slice ao n ca, .slice bo m cb] w fun e w' => e = .returned (.int .i64 (cmpn N M)) ∧ w = w' := by
  obtain ⟨xs, rfl, h1, rfl, h2⟩ := ha
  obtain ⟨ys, rfl, h3, rfl, h4⟩ := hb
  exact Compare_any ao bo ca cb xs ys w h1 h3
theorem rCompare_num {ao bo : Option Addr} {n m ca cb N M : Nat} {w : World} (ha : Num w ao n ca N) (hb : Num w bo m cb M) : Calls Try.prog 65 #[.slice ao n ca, .slice bo m cb] w fun e w' => e = .returned (.int .i64 (cmpn N M)) ∧ Below w.heap.size w w' := by
  obtain ⟨xs, rfl, h1, rfl, h2⟩ := ha
  obtain ⟨ys, rfl, h3, rfl, h4⟩ := hb
  exact rCompare_any ao bo ca cb xs ys w h1 h3
theorem Bits_num {ao : Option Addr} {n ca N : Nat} {w : World} (ha : Num w ao n ca N) : Calls Try.prog 66 #[.slice ao n ca] w fun e w' => e = .returned (.int .i64 ((bl N : Nat) : Int)) ∧ w = w' := by
  obtain ⟨xs, rfl, h1, rfl, h2⟩ := ha
  exact Bits_any ao ca xs w h1 (by omega)
/-- two results that stand for one number are the same -/
theorem Same_num {B B' : Nat} {ao bo : Option Addr} {ca cb N M : Nat} {w : World} (ha : Fr B w ao ca (dig N)) (hb : Fr B' w bo cb (dig M)) (h : N = M) : Calls Try.prog 33 #[.slice ao (dig N).length ca, .slice bo (dig M).length cb] w fun e w' => e = .returned (.bool true) ∧ Below w.heap.size w w' := by
  subst h
  exact Same_eq ao bo ca cb (dig N) w ha.rd hb.rd

theorem Cut_num {ao : Option Addr} {cap : Nat} {xs ys : List Nat} {w : World} (h : Rd w ao cap xs) (hy : ys = xs.take 12) : Num w ao ys.length cap (val ys) ∧ Sm (val ys) 12 := by
  have hl : ys.length ≤ 12 := by rw [hy, List.length_take]; omega
  have h2 : Rd w ao cap ys := by rw [hy]; exact h.take 12
  exact ⟨Num.of_rd h2 (by omega), Nat.lt_of_lt_of_le (val_lt h2.lims) (pw_mono hl), by omega⟩

set_option maxHeartbeats 400000 in
theorem Fold_any (v : Int) (k : Nat) (hk : 1 ≤ k) (hk2 : k ≤ 1000000) (w : World) (n : Int) (hn : n = k) :
    Calls Try.prog 17 #[.int .i64 v, .int .i64 n] w fun e w' => ∃ r : Nat, e = .returned (.int .i64 (r : Int)) ∧ r < k ∧ w = w' := by
  subst hn
  obtain ⟨u, hu⟩ : ∃ u : Nat, u = (IntKind.u64.wrap v).toNat := ⟨_, rfl⟩
  have hb : 0 ≤ IntKind.u64.wrap v ∧ IntKind.u64.wrap v ≤ 18446744073709551615 := by rw [IntKind.wrap_u64]; omega
  have hw : IntKind.u64.wrap v = (u : Int) := by omega
  have hub : (u : Int) ≤ 18446744073709551615 := by omega
  have hr : u % k < k := Nat.mod_lt _ (by omega)
  have he : (u : Int) % (k : Int) = ((u % k : Nat) : Int) := (Int.natCast_emod u k).symm
  have E := Lib.hid he
  have hrb0 : 0 ≤ (u : Int) % (k : Int) := by omega
  have hrb : (u : Int) % (k : Int) ≤ 1000000 := by omega
  have hmx : max (k : Int) 1 = (k : Int) := by omega
  clear hu hb he
  go_enter Try.func17, Try.ntmps17
  go_wp2
  go_ret
  exact ⟨u % k, ret_i64 E.out, hr, rfl⟩
end Go.Proofs.Ytdcnkebcpaelpaa
