import Derived.Test.YtjijnngblhddkaaGreatDoorPowM
import Derived.Test.YtjijnngblhddkaaGreatDoorNum5
import Derived.Test.YtjijnngblhddkaaGreatDoorShelf
import Derived.Lib.RabinKarpLaws
/- Contracts of the powers: natural.power and the reference's Raise. -/
namespace Go.Proofs.YtjijnngblhddkaaGreatDoor
open Go.RowKit

theorem len_any (k : Nat) (w : World) (h1 : k < 9223372036854775808) : Calls Tryz.prog 111 #[.int .u64 (k : Int)] w fun e w' => e = .returned (.int .i64 ((bl k : Nat) : Int)) ∧ w = w' := by
  refine (Tryz.bits_Len k w (by omega) (by omega)).mono ?_
  rintro e w' ⟨rfl, rfl⟩
  rw [Int.toNat_natCast, bitLen_bl k (by omega)]
  exact ⟨rfl, rfl⟩

set_option maxHeartbeats 2000000 in
set_option maxRecDepth 100000 in
theorem power_num {ao : Option Addr} {n ca N k K : Nat} {w : World} (ha : Num w ao n ca N) (hk : k < 9223372036854775808) (hs : Sm (N ^ k + 1) K) : Calls Tryz.prog 93 #[.slice ao n ca, .int .i64 (k : Int)] w (Makes (N ^ k) w) := by
  obtain ⟨L, hL⟩ : ∃ L, bl k = L := ⟨_, rfl⟩
  have hL2 : L ≤ 63 := by rw [← hL]; exact bl_le.2 hk
  have hLz : Hid (k / 2 ^ L = 0) := by show _ = _; rw [← hL]; exact div_bl k
  have HL := Lib.hid hL
  have hki : (k : Int) ≤ 9223372036854775807 := by omega
  have hkw : IntKind.u64.wrap (k : Int) = (k : Int) := by rw [IntKind.wrap_u64]; omega
  have HK := Lib.hid hk
  clear hL hk
  go_enter Tryz.func93, Tryz.ntmps93
  go_wp2_with fail
  refine (FromUint_any 1 (by omega) (by omega) _).mono ?_; rintro e w1 ⟨a1, c1, rfl, f1, b1⟩
  go_wp2_with fail
  refine (len_any k _ HK.out).mono ?_; rintro e w' ⟨rfl, rfl⟩
  rw [HL.out]
  replace ha := ha.below b1
  go_wp2_with fail
  go_loopw [5, 13] (fun s5 s13 wr => ∃ (i : Nat) (ao' : Option Addr) (c' : Nat), i ≤ L ∧ s13 = .int .i64 i ∧ s5 = .slice ao' (dig (N ^ (k / 2 ^ (L - i)))).length c' ∧ Fr w.heap.size wr ao' c' (dig (N ^ (k / 2 ^ (L - i)))) ∧ Below w.heap.size w wr ∧ Num wr ao n ca N) (fun _ s13 _ => L - (intOf s13).toNat)
  case atStart => exact ⟨0, a1, c1, by omega, rfl, by rw [Nat.sub_zero, hLz.out]; rfl, by rw [Nat.sub_zero, hLz.out]; exact f1, b1, ha⟩
  case round =>
    obtain ⟨i, a2, c2, hi, rfl, rfl, f2, hbl, har⟩ := hrel
    by_cases hlt : i < L
    · obtain ⟨j, hj⟩ : ∃ j, j + i + 1 = L := ⟨L - 1 - i, by omega⟩
      have hji : (L : Int) - 1 - (i : Int) = (j : Int) := by omega
      have e1 : L - i = j + 1 := by omega
      have e2 : L - (i + 1) = j := by omega
      rw [e1] at f2 ⊢
      have E2 := Lib.hid e2
      obtain ⟨E, hE⟩ : ∃ E, E = k / 2 ^ (j + 1) := ⟨_, rfl⟩
      obtain ⟨D, hD⟩ : ∃ D, D = k / 2 ^ j := ⟨_, rfl⟩
      have hst := bit_step k j
      rw [← hE, ← hD] at hst
      rw [← hE] at f2 ⊢
      have hDk : D ≤ k := by rw [hD]; exact Nat.div_le_self _ _
      have hsh : (k : Int) / 2 ^ j = (D : Int) := by rw [hD]; simp
      have s_E : Sm (N ^ E) K := sm_pow hs (by omega)
      have s_2 : Sm (N ^ (2 * E)) K := sm_pow hs (by omega)
      have s_3 : Sm (N ^ D) K := sm_pow hs hDk
      have n2 := Num.of_fr f2 s_E
      have hand := Go.Proofs.and_one D (by omega)
      have SQ := Lib.hid (pow_sq N E)
      have HD := Lib.hid hD
      have hjb : j ≤ 62 := by omega
      clear hj hE hD e1 e2
      rcases Nat.mod_two_eq_zero_or_one D with hb | hb
      · rw [hb] at hand hst
        have hDE : Hid (2 * E = D) := by show _ = _; omega
        clear hst hb
        go_wp2_with fail
        refine (Mul_num n2 n2).mono ?_; rintro e w3 ⟨a3, c3, rfl, f3, b3⟩
        rw [SQ.out, hDE.out] at f3 ⊢
        go_wp2_with fail
        go_roundw
        case rel => exact ⟨i + 1, a3, c3, by omega, by go_num, by rw [E2.out, ← HD.out], by rw [E2.out, ← HD.out]; exact f3.mono hbl.size, hbl.trans (b3.mono hbl.size), har.below b3⟩
        case measure => simp [intOf]; omega
      · rw [hb] at hand hst
        have hDE : Hid (N ^ (2 * E) * N = N ^ D) := by show _ = _; rw [pow_sq1, hst]
        clear hst hb
        go_wp2_with fail
        refine (Mul_num n2 n2).mono ?_; rintro e w3 ⟨a3, c3, rfl, f3, b3⟩
        rw [SQ.out] at f3 ⊢
        replace har := har.below b3
        have n3 := Num.of_fr f3 s_2
        go_wp2_with fail
        refine (Mul_num n3 har).mono ?_; rintro e w4 ⟨a4, c4, rfl, f4, b4⟩
        rw [hDE.out] at f4 ⊢
        replace hbl := hbl.trans (b3.mono hbl.size)
        go_wp2_with fail
        go_roundw
        case rel => exact ⟨i + 1, a4, c4, by omega, by go_num, by rw [E2.out, ← HD.out], by rw [E2.out, ← HD.out]; exact f4.mono hbl.size, hbl.trans (b4.mono hbl.size), har.below b4⟩
        case measure => simp [intOf]; omega
    · obtain rfl : i = L := by omega
      rw [Nat.sub_self, Nat.pow_zero, Nat.div_one] at f2 ⊢
      go_wp2_with fail
      go_ret
      exact ⟨a2, c2, rfl, f2, hbl⟩

set_option maxHeartbeats 2000000 in
set_option maxRecDepth 100000 in
theorem Raise_num {ao : Option Addr} {n ca N k K : Nat} {w : World} (ha : Num w ao n ca N) (hk : k < 9223372036854775808) (hs : Sm (N ^ k + N + 1) K) : Calls Tryz.prog 51 #[.slice ao n ca, .int .i64 (k : Int)] w (Makes (N ^ k) w) := by
  have hki : (k : Int) ≤ 9223372036854775807 := by omega
  have one := one_new w
  have bn := below_new w (.cells #[.int .u32 1] 50)
  have f1 : Fr w.heap.size (w.alloc (.cells #[.int .u32 1] 50)) (some ⟨w.heap.size, 0, none⟩) 1 (dig 1) := Fr.of_own (Own.new w [1]) (lims_cons (by omega) lims_nil) (Nat.le_refl _) 1 (by decide) (by omega)
  have HK := Lib.hid hk
  clear hk
  replace ha := ha.below bn
  go_enter Tryz.func51, Tryz.ntmps51
  go_wp2_with fail
  refine (rTrim_num ha).mono ?_; rintro e w1 ⟨a1, c1, rfl, g1, b1⟩
  have B1 := bn.trans (b1.mono bn.size)
  have f2 := f1.below b1
  have g2 := g1.mono bn.size
  clear f1 one bn
  go_wp2_with fail
  go_loopg [0, 1, 5] k (fun g s0 s1 s5 wr => ∃ (i o m : Nat) (a0 a5 : Option Addr) (c0 c5 : Nat), g = i ∧ s1 = .int .i64 i ∧ s0 = .slice a0 (dig m).length c0 ∧ s5 = .slice a5 (dig o).length c5 ∧ Fr w.heap.size wr a0 c0 (dig m) ∧ Fr w.heap.size wr a5 c5 (dig o) ∧ i ≤ k ∧ o * m ^ i = N ^ k ∧ (N = 0 → m = 0 ∧ o ≤ 1) ∧ Sm o K ∧ Sm m K ∧ Below w.heap.size w wr)
  case atStart => exact ⟨k, 1, N, _, _, _, _, rfl, rfl, rfl, rfl, g2, f2, Nat.le_refl _, Nat.one_mul _, fun h => ⟨h, by omega⟩, Sm.of_le hs (by omega), Sm.of_le hs (by omega), B1⟩
  case round =>
    obtain ⟨i, o, m, a0, a5, c0, c5, hgi, rfl, rfl, rfl, f0, f5, hik, hom, hz, so, sm, hbl⟩ := hrel
    have GI := Lib.hid hgi
    have HZ := Lib.hid hz
    have HOM := Lib.hid hom
    have HIK := Lib.hid hik
    have hii : (i : Int) ≤ 9223372036854775807 := by omega
    have n0 := Num.of_fr f0 sm
    have n5 := Num.of_fr f5 so
    clear hgi hz hom g1 g2 f2 b1 B1 ha hik
    rcases Nat.eq_zero_or_pos i with h0 | h0
    · subst h0
      have hoN : Hid (o = N ^ k) := by show _ = _; have := HOM.out; rwa [Nat.pow_zero, Nat.mul_one] at this
      go_wp2_with fail
      go_ret
      rw [hoN.out] at f5
      exact ⟨a5, c5, ret_len (by rw [hoN.out]), f5, hbl⟩
    · obtain ⟨l1, l2, l3, l4⟩ := raise_le HOM.out HZ.out h0
      have L3 := Lib.hid l3
      have L4 := Lib.hid l4
      have H0 := Lib.hid h0
      clear l1 l2 l3 l4
      rcases Nat.mod_two_eq_zero_or_one i with hb | hb
      · have hm2 : (i : Int) % 2 = 0 := by omega
        have hi2 : 2 ≤ i := by omega
        have HB := Lib.hid hb
        clear hb
        go_wp2_with fail
        refine (rMul_num n0 n0).mono ?_; rintro e w3 ⟨a3, c3, rfl, f3, b3⟩
        go_wp2_with fail
        go_roundg (i / 2)
        case measure => rw [GI.out]; omega
        case rel => exact ⟨i / 2, o, m * m, a3, a5, c3, c5, rfl, by go_num, rfl, rfl, f3.mono hbl.size, f5.below b3, by have := HIK.out; omega, raise_even HB.out HOM.out, fun z => ⟨by rw [(HZ.out z).1], (HZ.out z).2⟩, so, Sm.of_le hs (L4.out hi2), hbl.trans (b3.mono hbl.size)⟩
      · have hm2 : (i : Int) % 2 = 1 := by omega
        have HB := Lib.hid hb
        clear hb
        have s_om : Sm (o * m) K := Sm.of_le hs L3.out
        by_cases hi2 : 2 ≤ i
        · go_wp2_with fail
          refine (rMul_num n5 n0).mono ?_; rintro e w3 ⟨a3, c3, rfl, f3, b3⟩
          replace n0 := n0.below b3
          have f3' := f3.mono hbl.size
          replace hbl := hbl.trans (b3.mono hbl.size)
          go_wp2_with fail
          refine (rMul_num n0 n0).mono ?_; rintro e w4 ⟨a4, c4, rfl, f4, b4⟩
          go_wp2_with fail
          go_roundg (i / 2)
          case measure => rw [GI.out]; omega
          case rel => exact ⟨i / 2, o * m, m * m, a4, a3, c4, c3, rfl, by go_num, rfl, rfl, f4.mono hbl.size, f3'.below b4, by have := HIK.out; omega, raise_odd HB.out HOM.out, fun z => ⟨by rw [(HZ.out z).1], by rw [(HZ.out z).1, Nat.mul_zero]; omega⟩, s_om, Sm.of_le hs (L4.out hi2), hbl.trans (b4.mono hbl.size)⟩
        · have hi1 : i = 1 := by have := H0.out; omega
          subst hi1
          go_wp2_with fail
          refine (rMul_num n5 n0).mono ?_; rintro e w3 ⟨a3, c3, rfl, f3, b3⟩
          have f3' := f3.mono hbl.size
          have hE : Hid (o * m * m ^ 0 = N ^ k) := by show _ = _; have := HOM.out; rwa [Nat.pow_one, ← Nat.mul_one (o * m), ← Nat.pow_zero m] at this
          go_wp2_with fail
          go_roundg 0
          case measure => rw [GI.out]; omega
          case rel => exact ⟨0, o * m, m, a0, a3, c0, c3, rfl, by go_num, rfl, rfl, f0.below b3, f3', by omega, hE.out, fun z => ⟨(HZ.out z).1, by rw [(HZ.out z).1, Nat.mul_zero]; omega⟩, s_om, sm, hbl.trans (b3.mono hbl.size)⟩
end Go.Proofs.YtjijnngblhddkaaGreatDoor
