import Derived.Test.YtdcnkebcpaelpaaGreatDoorPowM
import Derived.Test.YtdcnkebcpaelpaaGreatDoorNum5
import Derived.Test.YtdcnkebcpaelpaaGreatDoorShelf
import Derived.Lib.RabinKarpLaws
/- Contracts of the powers: natural.power and the reference's Raise. -/
namespace Go.Proofs.YtdcnkebcpaelpaaGreatDoor
open Go.RowKit

theorem len_any (k : Nat) (w : World) (h1 : k < 9223372036854775808) : Calls Tryz.prog 64 #[.int .u64 (k : Int)] w fun e w' => e = .returned (.int .i64 ((bl k : Nat) : Int)) ∧ w = w' := by
  refine (Tryz.bits_Len k w (by omega) (by omega)).mono ?_
  rintro e w' ⟨rfl, rfl⟩
  rw [Int.toNat_natCast, bitLen_bl k (by omega)]
  exact ⟨rfl, rfl⟩

set_option maxHeartbeats 2000000 in
set_option maxRecDepth 100000 in
theorem power_num {ao : Option Addr} {n ca N k K : Nat} {w : World} (ha : Num w ao n ca N) (hk : k < 9223372036854775808) (hs : Sm (N ^ k + 1) K) : Calls Tryz.prog 46 #[.slice ao n ca, .int .i64 (k : Int)] w (Makes (N ^ k) w) := by
  obtain ⟨L, hL⟩ : ∃ L, bl k = L := ⟨_, rfl⟩
  have hL2 : L ≤ 63 := by rw [← hL]; exact bl_le.2 hk
  have hLz : Hid (k / 2 ^ L = 0) := by show _ = _; rw [← hL]; exact div_bl k
  have HL := Lib.hid hL
  have hki : (k : Int) ≤ 9223372036854775807 := by omega
  have hkw : IntKind.u64.wrap (k : Int) = (k : Int) := by rw [IntKind.wrap_u64]; omega
  have HK := Lib.hid hk
  clear hL hk
  go_enter Tryz.func46, Tryz.ntmps46
  go_wp2_with fail
  refine (FromUint_any 1 (by omega) (by omega) _).mono ?_; rintro e w1 ⟨a1, c1, rfl, f1, b1⟩
  go_wp2_with fail
  refine (len_any k _ HK.out).mono ?_; rintro e w' ⟨rfl, rfl⟩
  rw [HL.out]
  replace ha := ha.below b1
  go_wp2_with fail
  go_loopw [5, 13] (fun s5 s13 wr => ∃ (i : Nat) (ao' : Option Addr) (c' : Nat), i ≤ L ∧ s13 = .int .i64 i ∧ s5 = .slice ao' (dig (N ^ (k / 2 ^ (L - i)))).length c' ∧ Fr w.heap.size wr ao' c' (dig (N ^ (k / 2 ^ (L - i)))) ∧ Below w.heap.size w wr ∧ Num wr ao n ca N) (fun _ s13 _ => L - (intOf s13).toNat)
  case atStart => exact ⟨0, a1, c1, by omega, rfl, by rw [Nat.sub_zero, hLz.out]; rfl, by rw [Nat.sub_zero, hLz.out]; exact f1, b1, ha⟩
  case round =>
    obtain ⟨i, a2, c2, hi, rfl, rfl, f2, hbl, har⟩ := hrel
    by_cases hlt : i < L
    · obtain ⟨j, hj⟩ : ∃ j, j + i + 1 = L := ⟨L - 1 - i, by omega⟩
      have hji : (L : Int) - 1 - (i : Int) = (j : Int) := by omega
      have e1 : L - i = j + 1 := by omega
      have e2 : L - (i + 1) = j := by omega
      rw [e1] at f2 ⊢
      have E2 := Lib.hid e2
      obtain ⟨E, hE⟩ : ∃ E, E = k / 2 ^ (j + 1) := ⟨_, rfl⟩
      obtain ⟨D, hD⟩ : ∃ D, D = k / 2 ^ j := ⟨_, rfl⟩
      have hst := bit_step k j
      rw [← hE, ← hD] at hst
      rw [← hE] at f2 ⊢
      have hDk : D ≤ k := by rw [hD]; exact Nat.div_le_self _ _
      have hsh : (k : Int) / 2 ^ j = (D : Int) := by rw [hD]; simp
      have s_E : Sm (N ^ E) K := sm_pow hs (by omega)
      have s_2 : Sm (N ^ (2 * E)) K := sm_pow hs (by omega)
      have s_3 : Sm (N ^ D) K := sm_pow hs hDk
      have n2 := Num.of_fr f2 s_E
      have hand := Go.Proofs.and_one D (by omega)
      have SQ := Lib.hid (pow_sq N E)
      have HD := Lib.hid hD
      have hjb : j ≤ 62 := by omega
      clear hj hE hD e1 e2
      rcases Nat.mod_two_eq_zero_or_one D with hb | hb
      · rw [hb] at hand hst
        have hDE : Hid (2 * E = D) := by show _ = _; omega
        clear hst hb
        go_wp2_with fail
        refine (Mul_num n2 n2).mono ?_; rintro e w3 ⟨a3, c3, rfl, f3, b3⟩
        rw [SQ.out, hDE.out] at f3 ⊢
        go_wp2_with fail
        go_roundw
        case rel => exact ⟨i + 1, a3, c3, by omega, by go_num, by rw [E2.out, ← HD.out], by rw [E2.out, ← HD.out]; exact f3.mono hbl.size, hbl.trans (b3.mono hbl.size), har.below b3⟩
        case measure => simp [intOf]; omega
      · rw [hb] at hand hst
        have hDE : Hid (N ^ (2 * E) * N = N ^ D) := by show _ = _; rw [pow_sq1, hst]
        clear hst hb
        go_wp2_with fail
        refine (Mul_num n2 n2).mono ?_; rintro e w3 ⟨a3, c3, rfl, f3, b3⟩
        rw [SQ.out] at f3 ⊢
        replace har := har.below b3
        have n3 := Num.of_fr f3 s_2
        go_wp2_with fail
        refine (Mul_num n3 har).mono ?_; rintro e w4 ⟨a4, c4, rfl, f4, b4⟩
        rw [hDE.out] at f4 ⊢
        replace hbl := hbl.trans (b3.mono hbl.size)
        go_wp2_with fail
        go_roundw
        case rel => exact ⟨i + 1, a4, c4, by omega, by go_num, by rw [E2.out, ← HD.out], by rw [E2.out, ← HD.out]; exact f4.mono hbl.size, hbl.trans (b4.mono hbl.size), har.below b4⟩
        case measure => simp [intOf]; omega
    · obtain rfl : i = L := by omega
      rw [Nat.sub_self, Nat.pow_zero, Nat.div_one] at f2 ⊢
      go_wp2_with fail
      go_ret
      exact ⟨a2, c2, rfl, f2, hbl⟩

end Go.Proofs.YtdcnkebcpaelpaaGreatDoor
