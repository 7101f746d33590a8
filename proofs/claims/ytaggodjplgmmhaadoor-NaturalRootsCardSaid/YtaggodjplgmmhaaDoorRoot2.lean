/- Contracts of natural.floorRoot and Root. -/
import Derived.Test.YtaggodjplgmmhaaDoorRoot1
import Derived.Test.YtaggodjplgmmhaaDoorPow3
namespace Go.Proofs.YtaggodjplgmmhaaDoor
open Go.RowKit

theorem shiftRight_num {ao : Option Addr} {n ca N k : Nat} {w : World} (i : Int) (hi : i = (k : Int)) (ha : Num w ao n ca N) (hk : k ≤ 1000000) {R : Nat} (hR : N / 2 ^ k = R) : Calls Tryd.prog 69 #[.slice ao n ca, .int .i64 i] w (Makes R w) := by
  subst hi hR
  obtain ⟨xs, rfl, h1, rfl, h2⟩ := ha
  exact shiftRight_any ao ca k (k / 32) (k % 32) xs w h1 (by omega) (by omega) (by omega) (by omega)
theorem shiftLeft_num {ao : Option Addr} {n ca N k : Nat} {w : World} (i : Int) (hi : i = (k : Int)) (ha : Num w ao n ca N) (hk : k ≤ 1000000) : Calls Tryd.prog 66 #[.slice ao n ca, .int .i64 i] w (Makes (N * 2 ^ k) w) := by
  subst hi
  obtain ⟨xs, rfl, h1, rfl, h2⟩ := ha
  exact shiftLeft_any ao ca k (k / 32) (k % 32) xs w h1 h2 (by omega) (by omega) (by omega)
theorem len_v (k : Nat) (i : Int) (hi : i = (k : Int)) (w : World) (h1 : k < 9223372036854775808) : Calls Tryd.prog 73 #[.int .u64 i] w fun e w' => e = .returned (.int .i64 ((bl k : Nat) : Int)) ∧ w = w' := by
  subst hi; exact len_any k w h1
theorem newton_num {ao so : Option Addr} {n ca sc N S k L : Nat} {w : World} (i : Int) (hi : i = (k : Int)) (ha : Num w ao n ca N) (B : Nat) (hS : Fr B w so sc (dig S)) (hB : B ≤ w.heap.size) (hk0 : 0 < k) (hk : k ≤ 1024) (hab : Above N k S) (hS0 : 0 < S) (hsL : Sm (S ^ k + 1) L) (hL : L ≤ 1000000) (sN : Sm N L) (hN : 0 < N) :
    Calls Tryd.prog 74 #[.slice ao n ca, .int .i64 i, .slice so (dig S).length sc] w (RootPost B N k w) := by
  obtain ⟨j, rfl⟩ : ∃ j, k = j + 1 := ⟨k - 1, by omega⟩
  subst hi
  exact newton_any ha hS hB (by omega) hab hS0 hsL hL sN hN

theorem sm_up {N k l : Nat} (h : Sm N k) (hl : k ≤ l ∧ l ≤ 549755813888) : Sm N l := by
  refine ⟨Nat.lt_of_lt_of_le h.1 ?_, hl.2⟩
  rw [pw_two, pw_two]
  exact Nat.pow_le_pow_right (by omega) (by omega)
set_option maxHeartbeats 4000000 in
set_option maxRecDepth 100000 in
theorem floorRoot_any (k : Nat) (hk0 : 0 < k) (hk : k ≤ 1024) : ∀ (N : Nat) (ao : Option Addr) (n ca : Nat) (w : World), Num w ao n ca N → Sm N 100 →
    Calls Tryd.prog 54 #[.slice ao n ca, .int .i64 (k : Int)] w (RootPost w.heap.size N k w) := by
  intro N
  induction N using Nat.strongRecOn with
  | ind N ih =>
  intro ao n ca w ha sN
  obtain ⟨b, hb⟩ : ∃ b, bl N = b := ⟨_, rfl⟩
  have HB := Lib.hid hb
  have hb32 : b ≤ 3200 := by rw [← hb]; exact bits_of sN
  rcases Nat.eq_zero_or_pos b with h0 | h0
  · have hN : N = 0 := by rw [← hb] at h0; exact Nat.lt_one_iff.1 (by have := bl_le.1 (Nat.le_of_eq h0); simpa using this)
    subst h0
    clear hb
    go_enter Tryd.func54, Tryd.ntmps54
    go_wp2_with fail
    refine (Bits_num ha).mono ?_; rintro e w' ⟨rfl, rfl⟩
    rw [HB.out]
    go_wp2_with fail
    go_ret
    subst hN
    exact ⟨0, none, 0, rfl, Fr.nil _ _, Below.refl _ _, isRoot_zero hk0⟩
  · have hN0 : 0 < N := by
      rcases Nat.eq_zero_or_pos N with e | e
      · rw [e, bl_zero] at hb; omega
      · exact e
    by_cases hle : b ≤ k
    · have hr := isRoot_one hN0 (bl_le.1 (hb ▸ hle))
      have HR := Lib.hid hr
      clear hr hN0 hb
      have hd : ((b : Int) == 0) = false := beq_eq_false_iff_ne.2 (by omega)
      go_enter Tryd.func54, Tryd.ntmps54
      go_wp2_with fail
      refine (Bits_num ha).mono ?_; rintro e w' ⟨rfl, rfl⟩
      rw [HB.out]
      go_wp2_with fail
      refine (FromUint_v 1 _ rfl (by omega) _).mono ?_; rintro e w4 ⟨a4, c4, rfl, f4, b4⟩
      go_wp2_with fail
      go_ret
      exact ⟨1, a4, c4, rfl, f4, b4, HR.out⟩
    · have hkb : k < b := by omega
      obtain ⟨q1, q2⟩ := rs_facts hk0 hkb
      have hbN : 2 ^ (b - 1) ≤ N := by
        rcases Nat.lt_or_ge N (2 ^ (b - 1)) with e | e
        · have := bl_le.2 e; omega
        · exact e
      have hd : ((b : Int) == 0) = false := beq_eq_false_iff_ne.2 (by omega)
      obtain ⟨rs, hrs⟩ : ∃ rs, (b + k - 1) / k = rs := ⟨_, rfl⟩
      rw [hrs] at q1 q2
      have hrsI : ((b : Int) + (k : Int) - 1) / (k : Int) = (rs : Int) := by
        rw [← hrs]
        have : ((b : Int) + (k : Int) - 1) = ((b + k - 1 : Nat) : Int) := by omega
        rw [this]; rfl
      have hrsT : Int.tdiv ((b : Int) + (k : Int) - 1) (k : Int) = (rs : Int) := by
        rw [Int.tdiv_eq_ediv_of_nonneg (by omega)]; exact hrsI
      have hrsb : rs ≤ b := by
        have h1 : (rs - 1) * 1 ≤ (rs - 1) * k := Nat.mul_le_mul_left _ hk0
        omega
      obtain ⟨bk, hbk⟩ : ∃ bk, bl k = bk := ⟨_, rfl⟩
      have hbkl : bk ≤ 64 := by rw [← hbk]; exact bl_le.2 (Nat.lt_of_le_of_lt hk (by decide))
      obtain ⟨y, hy⟩ : ∃ y : Int, Int.tdiv ((rs : Int) - 1 - (bk : Int)) 2 = y := ⟨_, rfl⟩
      obtain ⟨l, hm1, hm2, hl, hl1, hy1, hy2⟩ := low_facts rs bk y q1 hy
      have hlk := low_le hkb q2 hl
      have hlb : l ≤ 3200 := by rcases hl with h | h <;> omega
      obtain ⟨z, hz⟩ : ∃ z, l * k = z := ⟨_, rfl⟩
      have hzI : (l : Int) * (k : Int) = (z : Int) := by rw [← hz]; exact (Int.natCast_mul l k).symm
      have hz1 : 0 < z := by rw [← hz]; exact Nat.mul_pos hl1 hk0
      rw [hz] at hlk
      have hH0 := high_pos hbN hlk
      have hHl := high_lt hN0 hz1
      obtain ⟨H, hH⟩ : ∃ H, N / 2 ^ z = H := ⟨_, rfl⟩
      rw [hH] at hH0 hHl
      have s_H : Sm H 100 := Sm.of_le sN (by omega)
      have IH := Lib.hid (ih H hHl)
      have HZ := Lib.hid hz
      have HH := Lib.hid hH
      have HH0 := Lib.hid hH0
      have HN0 := Lib.hid hN0
      have HBK := Lib.hid hbk
      have HL := Lib.hid hl
      clear ih hz hH hH0 hHl hrs hbN hb hle hl hN0 hbk q2
      go_enter Tryd.func54, Tryd.ntmps54
      go_wp2_with fail
      refine (Bits_num ha).mono ?_; rintro e w' ⟨rfl, rfl⟩
      rw [HB.out]
      go_wp2_with fail
      refine (len_v k _ (by omega) _ (by omega)).mono ?_; rintro e w' ⟨rfl, rfl⟩
      rw [HBK.out]
      go_wp2_with fail
      refine (shiftRight_num (k := z) _ (by omega) ha (by omega) HH.out).mono ?_; rintro e w1 ⟨a1, c1, rfl, f1, b1⟩
      have n1 := Num.of_fr f1 s_H
      have na := ha.below b1
      go_wp2_with fail
      refine (IH.out _ _ _ _ n1 s_H).mono ?_; rintro e w2 ⟨R, a2, c2, rfl, f2, b2, hr⟩
      have s_R : Sm R 100 := Sm.of_le s_H (hr.le hk0)
      have n2 := Num.of_fr f2 s_R
      replace na := na.below b2
      have B := b1.trans (b2.mono b1.size)
      have hr' : IsRoot (N / 2 ^ (l * k)) k R := by rw [HZ.out, HH.out]; exact hr
      have hab := Lib.hid (above_start hr')
      have s_one : Sm 1 1 := ⟨by rw [pw_succ, pw_zero]; omega, by omega⟩
      have s_2k : Sm (2 ^ k) 33 := by
        refine ⟨?_, by omega⟩
        rw [pw_two]
        obtain ⟨E, hE⟩ : ∃ E : Nat, E = 32 * 33 := ⟨_, rfl⟩
        rw [← hE]
        exact Nat.pow_lt_pow_right (by omega) (by omega)
      have s_S := Lib.hid (Sm.of_le ((s_2k.mul sN (by omega)).add s_one (by omega)) (Nat.add_le_add_right (start_le hr' (by rw [HZ.out, HH.out]; exact HH0.out)) 1))
      have hS0 := Lib.hid (show 0 < (R + 1) * 2 ^ l from Nat.mul_pos (Nat.succ_pos R) (Nat.two_pow_pos l))
      clear hr hr' n1 s_2k
      go_wp2_with fail
      refine (FromUint_v 1 _ rfl (by omega) _).mono ?_; rintro e w3 ⟨a3, c3, rfl, f3, b3⟩
      have n3 := Num.of_fr f3 s_one
      replace na := na.below b3
      replace n2 := n2.below b3
      replace B := B.trans (b3.mono B.size)
      go_wp2_with fail
      refine (Add_num n2 n3).mono ?_; rintro e w4 ⟨a4, c4, rfl, f4, b4⟩
      have n4 := Num.of_fr f4 (s_R.add s_one (by omega))
      replace na := na.below b4
      replace B := B.trans (b4.mono B.size)
      clear n2 n3 f2 f3
      go_wp2_with fail
      refine (shiftLeft_num (k := l) _ rfl n4 (by omega)).mono ?_; rintro e w5 ⟨a5, c5, rfl, f5, b5⟩
      have f5' := f5.mono B.size
      replace na := na.below b5
      replace B := B.trans (b5.mono B.size)
      clear n4 f4 f5
      go_wp2_with fail
      refine (newton_num (k := k) _ rfl na w.heap.size f5' B.size hk0 hk hab.out hS0.out s_S.out (by omega) (sm_up sN (by omega)) HN0.out).mono ?_; rintro e w6 ⟨R', a6, c6, rfl, f6, b6, hr6⟩
      have BE := B.trans (b6.mono B.size)
      go_wp2_with fail
      go_ret
      exact ⟨R', a6, c6, rfl, f6, BE, hr6⟩

/-- what Root gives -/
def RtPost (N k : Nat) (w : World) (e : Ending) (w' : World) : Prop := ∃ (R : Nat) (x : Bool) (ao : Option Addr) (c : Nat), e = .returned (.tuple #[.slice ao (dig R).length c, .bool x, .int .i64 0]) ∧ Fr w.heap.size w' ao c (dig R) ∧ Below w.heap.size w w' ∧ IsRoot N k R ∧ (R ^ k = N ∧ x = true ∨ R ^ k < N ∧ x = false)

set_option maxHeartbeats 4000000 in
set_option maxRecDepth 100000 in
theorem Root_v {ao : Option Addr} {n ca N k : Nat} {w : World} (i : Int) (hi : i = (k : Int)) (ha : Num w ao n ca N) (sN : Sm N 100) (hk0 : 0 < k) (hk : k ≤ 1024) :
    Calls Tryd.prog 30 #[.slice ao n ca, .int .i64 i] w (RtPost N k w) := by
  subst hi
  go_enter Tryd.func30, Tryd.ntmps30
  go_wp2_with fail
  refine (floorRoot_any k hk0 hk N _ _ _ _ ha sN).mono ?_; rintro e w1 ⟨R, a1, c1, rfl, f1, b1, hr⟩
  have s_R : Sm R 100 := Sm.of_le sN (hr.le hk0)
  have s_p : Sm (R ^ k + 1) 102 := Sm.of_le (sN.add (M := 1) (l := 1) ⟨by rw [pw_succ, pw_zero]; omega, by omega⟩ (by omega)) (by have := hr.1; omega)
  have n1 := Num.of_fr f1 s_R
  have HR := Lib.hid hr
  have hc : Hid (R ^ k = N ∧ cmpn (R ^ k) N = 0 ∨ R ^ k < N ∧ cmpn (R ^ k) N = -1) := by
    rcases Nat.lt_or_ge (R ^ k) N with e | e
    · exact .inr ⟨e, cmpn_lt e⟩
    · have : R ^ k = N := Nat.le_antisymm hr.1 e
      exact .inl ⟨this, cmpn_eq this⟩
  obtain ⟨c, hcc⟩ : ∃ c, cmpn (R ^ k) N = c := ⟨_, rfl⟩
  rw [hcc] at hc
  have HC := Lib.hid hcc
  have na := ha.below b1
  clear hr hcc ha
  go_wp2_with fail
  refine (power_v (k := k) _ rfl n1 (by omega) s_p).mono ?_; rintro e w2 ⟨a2, c2, rfl, f2, b2⟩
  have n2 := Num.of_fr f2 (Sm.of_le s_p (by omega))
  replace f1 := f1.below b2
  replace na := na.below b2
  have B := b1.trans (b2.mono b1.size)
  clear n1
  rcases hc.out with ⟨h1, h2⟩ | ⟨h1, h2⟩
  all_goals
    have H1 := Lib.hid h1
    rw [h2] at HC
    clear hc h1 h2
    go_wp2_with fail
    refine (Compare_num n2 na).mono ?_; rintro e w' ⟨rfl, rfl⟩
    rw [HC.out]
    go_wp2_with fail
    go_ret3
  · exact ⟨R, true, a1, c1, rfl, f1, B, HR.out, .inl ⟨H1.out, rfl⟩⟩
  · exact ⟨R, false, a1, c1, rfl, f1, B, HR.out, .inr ⟨H1.out, rfl⟩⟩
set_option maxHeartbeats 4000000 in
set_option maxRecDepth 100000 in
theorem Root_bad {ao : Option Addr} {n ca : Nat} {w : World} (i : Int) (hi : i < 1 ∨ 1024 < i) :
    Calls Tryd.prog 30 #[.slice ao n ca, .int .i64 i] w fun e w' => e = .returned (.tuple #[.slice none 0 0, .bool false, .int .i64 12]) ∧ w = w' := by
  rcases hi with h | h
  · go_enter Tryd.func30, Tryd.ntmps30
    go_wp2_with fail
    go_ret3
    first | exact ⟨rfl, rfl⟩ | rfl
  · go_enter Tryd.func30, Tryd.ntmps30
    go_wp2_with fail
    go_ret3
    first | exact ⟨rfl, rfl⟩ | rfl
end Go.Proofs.YtaggodjplgmmhaaDoor
