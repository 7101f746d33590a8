import Derived.Test.YtmhjimcdiglpcaaGreatDoorNum
import Derived.Test.YtmhjimcdiglpcaaGreatDoorNum5
import Derived.Test.YtmhjimcdiglpcaaGreatDoorShelf
import Derived.Lib.RabinKarpLaws
/- Plain facts on powers by squaring. No program here. -/
namespace Go.Proofs.YtmhjimcdiglpcaaGreatDoor

theorem pow_le_of {N j k : Nat} (h : j ≤ k) : N ^ j ≤ N ^ k + 1 := by
  rcases Nat.eq_zero_or_pos N with e | e
  · subst e
    rcases Nat.eq_zero_or_pos j with z | z
    · subst z; simp
    · rw [Nat.zero_pow z]; exact Nat.zero_le _
  · have := Nat.pow_le_pow_right e h; omega
theorem sm_pow {N j k K : Nat} (h : Sm (N ^ k + 1) K) (hj : j ≤ k) : Sm (N ^ j) K := Sm.of_le h (pow_le_of hj)
theorem bit_step (k j : Nat) : k / 2 ^ j = 2 * (k / 2 ^ (j + 1)) + k / 2 ^ j % 2 := by
  rw [Nat.pow_succ, ← Nat.div_div_eq_div_mul]; omega
theorem pow_sq (N e : Nat) : N ^ e * N ^ e = N ^ (2 * e) := by rw [← Nat.pow_add]; congr 1; omega
theorem pow_sq1 (N e : Nat) : N ^ (2 * e) * N = N ^ (2 * e + 1) := (Nat.pow_succ N (2 * e)).symm
theorem div_bl (k : Nat) : k / 2 ^ bl k = 0 := Nat.div_eq_of_lt (bl_self k)

/-- the two factors of a power stay below N^k + N + 1 -/
theorem raise_le {N k o n i : Nat} (h : o * n ^ i = N ^ k) (hn : N = 0 → n = 0 ∧ o ≤ 1) (h0 : 0 < i) : n ≤ N ^ k + N + 1 ∧ o ≤ N ^ k + N + 1 ∧ o * n ≤ N ^ k + N + 1 ∧ (2 ≤ i → n * n ≤ N ^ k + N + 1) := by
  rcases Nat.eq_zero_or_pos N with e | e
  · obtain ⟨rfl, ho⟩ := hn e
    refine ⟨by omega, by omega, by rw [Nat.mul_zero]; omega, fun _ => by omega⟩
  · have hp : 0 < N ^ k := Nat.pow_pos e
    have ho : 0 < o := Nat.pos_of_ne_zero (fun z => by rw [z, Nat.zero_mul] at h; omega)
    have hni : 0 < n ^ i := Nat.pos_of_ne_zero (fun z => by rw [z, Nat.mul_zero] at h; omega)
    have hn1 : 0 < n := Nat.pos_of_ne_zero (fun z => by rw [z, Nat.zero_pow h0] at hni; omega)
    have a1 : o * 1 ≤ o * n ^ i := Nat.mul_le_mul_left _ hni
    have a2 : n ^ 1 ≤ n ^ i := Nat.pow_le_pow_right hn1 h0
    have a3 : 1 * n ^ i ≤ o * n ^ i := Nat.mul_le_mul_right _ ho
    have a4 : o * n ≤ o * n ^ i := Nat.mul_le_mul_left _ (by rwa [Nat.pow_one] at a2)
    rw [Nat.pow_one] at a2
    refine ⟨by omega, by omega, by omega, fun h2 => ?_⟩
    have a5 : n ^ 2 ≤ n ^ i := Nat.pow_le_pow_right hn1 h2
    rw [Nat.pow_two] at a5
    omega
theorem raise_odd {o n i m : Nat} (hi : i % 2 = 1) (h : o * n ^ i = m) : (o * n) * (n * n) ^ (i / 2) = m := by
  rw [← h, ← Nat.pow_two, ← Nat.pow_mul, Nat.mul_assoc, Nat.mul_comm n, ← Nat.pow_succ]
  congr 2; omega
theorem raise_even {o n i m : Nat} (hi : i % 2 = 0) (h : o * n ^ i = m) : o * (n * n) ^ (i / 2) = m := by
  rw [← h, ← Nat.pow_two, ← Nat.pow_mul]
  congr 2; omega

/-- the errors of a power -/
def powWhy (N : Nat) (k : Int) : Int := if k < 0 then 10 else if k = 0 ∨ bl N ≤ 1 then 0 else if 131071 / k.toNat < bl N - 1 ∨ 131072 < bl (N ^ k.toNat) then 11 else 0
def powRes (N : Nat) (k : Int) : Nat := if powWhy N k = 0 then N ^ k.toNat else 0
theorem bl_small {N k : Nat} (h : bl N ≤ 1) (hk : 0 < k) : N ^ k = N := by
  have h1 := bl_le.1 h
  have h2 : N = 0 ∨ N = 1 := by omega
  rcases h2 with rfl | rfl
  · exact Nat.zero_pow hk
  · exact Nat.one_pow k
/-- a power within the limit has few limbs -/
theorem pow_sm {N k : Nat} (h1 : 2 ≤ bl N) (hk : 0 < k) (h : bl N - 1 ≤ 131071 / k) : Sm (N ^ k + N + 1) 8194 ∧ k ≤ 131071 := by
  have a1 : (bl N - 1) * k ≤ 131071 := (Nat.le_div_iff_mul_le hk).1 h
  have a2 : 1 * k ≤ (bl N - 1) * k := Nat.mul_le_mul_right _ (by omega)
  have a3 : bl N * k ≤ 262142 := by
    have : bl N * k = (bl N - 1) * k + k := by rw [← Nat.succ_mul]; congr 1; omega
    omega
  obtain ⟨E, hE⟩ : ∃ E : Nat, E = 262143 := ⟨_, rfl⟩
  obtain ⟨F, hF⟩ : ∃ F : Nat, F = 131072 := ⟨_, rfl⟩
  have a4 : N ^ k < 2 ^ E := by
    have b1 : N ^ k ≤ (2 ^ bl N) ^ k := Nat.pow_le_pow_left (Nat.le_of_lt (bl_self N)) k
    rw [← Nat.pow_mul] at b1
    exact Nat.lt_of_le_of_lt b1 (Nat.pow_lt_pow_right (by omega) (by omega))
  have a5 : bl N ≤ F := by
    have : (bl N - 1) * 1 ≤ (bl N - 1) * k := Nat.mul_le_mul_left _ hk
    omega
  have a6 : N < 2 ^ F := bl_le.1 a5
  have a7 : 2 ^ F ≤ 2 ^ E := Nat.pow_le_pow_right (by omega) (by omega)
  refine ⟨⟨?_, by omega⟩, by omega⟩
  rw [pw_two, show 32 * 8194 = E + 65 by omega, Nat.pow_add]
  have a8 : 2 ^ E * 4 ≤ 2 ^ E * 2 ^ 65 := Nat.mul_le_mul_left _ (by decide)
  have a9 : 1 ≤ 2 ^ E := Nat.two_pow_pos _
  omega
end Go.Proofs.YtmhjimcdiglpcaaGreatDoor
/- Contracts of the powers: natural.power and the reference's Raise. -/
namespace Go.Proofs.YtmhjimcdiglpcaaGreatDoor
open Go.RowKit

theorem len_any (k : Nat) (w : World) (h1 : k < 9223372036854775808) : Calls Tryz.prog 46 #[.int .u64 (k : Int)] w fun e w' => e = .returned (.int .i64 ((bl k : Nat) : Int)) ∧ w = w' := by
  refine (Tryz.bits_Len k w (by omega) (by omega)).mono ?_
  rintro e w' ⟨rfl, rfl⟩
  rw [Int.toNat_natCast, bitLen_bl k (by omega)]
  exact ⟨rfl, rfl⟩

set_option maxHeartbeats 2000000 in
set_option maxRecDepth 100000 in
theorem power_num {ao : Option Addr} {n ca N k K : Nat} {w : World} (ha : Num w ao n ca N) (hk : k < 9223372036854775808) (hs : Sm (N ^ k + 1) K) : Calls Tryz.prog 157 #[.slice ao n ca, .int .i64 (k : Int)] w (Makes (N ^ k) w) := by
  obtain ⟨L, hL⟩ : ∃ L, bl k = L := ⟨_, rfl⟩
  have hL2 : L ≤ 63 := by rw [← hL]; exact bl_le.2 hk
  have hLz : Hid (k / 2 ^ L = 0) := by show _ = _; rw [← hL]; exact div_bl k
  have HL := Lib.hid hL
  have hki : (k : Int) ≤ 9223372036854775807 := by omega
  have hkw : IntKind.u64.wrap (k : Int) = (k : Int) := by rw [IntKind.wrap_u64]; omega
  have HK := Lib.hid hk
  clear hL hk
  go_enter Tryz.func157, Tryz.ntmps157
  go_wp2_with fail
  refine (FromUint_any 1 (by omega) (by omega) _).mono ?_; rintro e w1 ⟨a1, c1, rfl, f1, b1⟩
  go_wp2_with fail
  refine (len_any k _ HK.out).mono ?_; rintro e w' ⟨rfl, rfl⟩
  rw [HL.out]
  replace ha := ha.below b1
  go_wp2_with fail
  go_loopw [5, 13] (fun s5 s13 wr => ∃ (i : Nat) (ao' : Option Addr) (c' : Nat), i ≤ L ∧ s13 = .int .i64 i ∧ s5 = .slice ao' (dig (N ^ (k / 2 ^ (L - i)))).length c' ∧ Fr w.heap.size wr ao' c' (dig (N ^ (k / 2 ^ (L - i)))) ∧ Below w.heap.size w wr ∧ Num wr ao n ca N) (fun _ s13 _ => L - (intOf s13).toNat)
  case atStart => exact ⟨0, a1, c1, by omega, rfl, by rw [Nat.sub_zero, hLz.out]; rfl, by rw [Nat.sub_zero, hLz.out]; exact f1, b1, ha⟩
  case round =>
    obtain ⟨i, a2, c2, hi, rfl, rfl, f2, hbl, har⟩ := hrel
    by_cases hlt : i < L
    · obtain ⟨j, hj⟩ : ∃ j, j + i + 1 = L := ⟨L - 1 - i, by omega⟩
      have hji : (L : Int) - 1 - (i : Int) = (j : Int) := by omega
      have e1 : L - i = j + 1 := by omega
      have e2 : L - (i + 1) = j := by omega
      rw [e1] at f2 ⊢
      have E2 := Lib.hid e2
      obtain ⟨E, hE⟩ : ∃ E, E = k / 2 ^ (j + 1) := ⟨_, rfl⟩
      obtain ⟨D, hD⟩ : ∃ D, D = k / 2 ^ j := ⟨_, rfl⟩
      have hst := bit_step k j
      rw [← hE, ← hD] at hst
      rw [← hE] at f2 ⊢
      have hDk : D ≤ k := by rw [hD]; exact Nat.div_le_self _ _
      have hsh : (k : Int) / 2 ^ j = (D : Int) := by rw [hD]; simp
      have s_E : Sm (N ^ E) K := sm_pow hs (by omega)
      have s_2 : Sm (N ^ (2 * E)) K := sm_pow hs (by omega)
      have s_3 : Sm (N ^ D) K := sm_pow hs hDk
      have n2 := Num.of_fr f2 s_E
      have hand := Go.Proofs.and_one D (by omega)
      have SQ := Lib.hid (pow_sq N E)
      have HD := Lib.hid hD
      have hjb : j ≤ 62 := by omega
      clear hj hE hD e1 e2
      rcases Nat.mod_two_eq_zero_or_one D with hb | hb
      · rw [hb] at hand hst
        have hDE : Hid (2 * E = D) := by show _ = _; omega
        clear hst hb
        go_wp2_with fail
        refine (Mul_num n2 n2).mono ?_; rintro e w3 ⟨a3, c3, rfl, f3, b3⟩
        rw [SQ.out, hDE.out] at f3 ⊢
        go_wp2_with fail
        go_roundw
        case rel => exact ⟨i + 1, a3, c3, by omega, by go_num, by rw [E2.out, ← HD.out], by rw [E2.out, ← HD.out]; exact f3.mono hbl.size, hbl.trans (b3.mono hbl.size), har.below b3⟩
        case measure => simp [intOf]; omega
      · rw [hb] at hand hst
        have hDE : Hid (N ^ (2 * E) * N = N ^ D) := by show _ = _; rw [pow_sq1, hst]
        clear hst hb
        go_wp2_with fail
        refine (Mul_num n2 n2).mono ?_; rintro e w3 ⟨a3, c3, rfl, f3, b3⟩
        rw [SQ.out] at f3 ⊢
        replace har := har.below b3
        have n3 := Num.of_fr f3 s_2
        go_wp2_with fail
        refine (Mul_num n3 har).mono ?_; rintro e w4 ⟨a4, c4, rfl, f4, b4⟩
        rw [hDE.out] at f4 ⊢
        replace hbl := hbl.trans (b3.mono hbl.size)
        go_wp2_with fail
        go_roundw
        case rel => exact ⟨i + 1, a4, c4, by omega, by go_num, by rw [E2.out, ← HD.out], by rw [E2.out, ← HD.out]; exact f4.mono hbl.size, hbl.trans (b4.mono hbl.size), har.below b4⟩
        case measure => simp [intOf]; omega
    · obtain rfl : i = L := by omega
      rw [Nat.sub_self, Nat.pow_zero, Nat.div_one] at f2 ⊢
      go_wp2_with fail
      go_ret
      exact ⟨a2, c2, rfl, f2, hbl⟩

end Go.Proofs.YtmhjimcdiglpcaaGreatDoor
/- Contracts of the powers with their errors. -/
namespace Go.Proofs.YtmhjimcdiglpcaaGreatDoor
open Go.RowKit

/-- what a power with its error gives -/
def PowPost (why : Int) (res : Nat) (w : World) (e : Ending) (w' : World) : Prop :=
  ∃ ao c, e = .returned (.tuple #[.slice ao (dig res).length c, .int .i64 why]) ∧ Fr w.heap.size w' ao c (dig res) ∧ Below w.heap.size w w'
theorem PowPost.err {why : Int} {w : World} : PowPost why 0 w (.returned (.tuple #[.slice none 0 0, .int .i64 why])) w := ⟨none, 0, rfl, Fr.nil _ _, Below.refl _ _⟩
theorem PowPost.made {w w' : World} {ao : Option Addr} {c R : Nat} (f : Fr w.heap.size w' ao c (dig R)) (b : Below w.heap.size w w') : PowPost 0 R w (.returned (.tuple #[.slice ao (dig R).length c, .int .i64 0])) w' := ⟨ao, c, rfl, f, b⟩

theorem Num.smp {w : World} {ao : Option Addr} {n cap N : Nat} (h : Num w ao n cap N) : ∃ k, Sm N k := by
  obtain ⟨xs, h1, h2, rfl, h4⟩ := h
  exact ⟨xs.length, val_lt h2.lims, h4⟩
/-- the ways of a power -/
theorem pow_cases (N : Nat) (k : Int) : (k < 0 ∧ powWhy N k = 10 ∧ powRes N k = 0) ∨ (k = 0 ∧ powWhy N k = 0 ∧ powRes N k = 1) ∨ (∃ j : Nat, k = j ∧ 0 < j ∧ bl N ≤ 1 ∧ powWhy N k = 0 ∧ powRes N k = N ^ j ∧ N ^ j = N) ∨
    (∃ j : Nat, k = j ∧ 0 < j ∧ 2 ≤ bl N ∧ 131071 / j < bl N - 1 ∧ powWhy N k = 11 ∧ powRes N k = 0) ∨ (∃ j : Nat, k = j ∧ 0 < j ∧ 2 ≤ bl N ∧ bl N - 1 ≤ 131071 / j ∧ 131072 < bl (N ^ j) ∧ powWhy N k = 11 ∧ powRes N k = 0) ∨
    (∃ j : Nat, k = j ∧ 0 < j ∧ 2 ≤ bl N ∧ bl N - 1 ≤ 131071 / j ∧ bl (N ^ j) ≤ 131072 ∧ powWhy N k = 0 ∧ powRes N k = N ^ j) := by
  rcases Int.lt_or_le k 0 with h | h
  · have e : powWhy N k = 10 := if_pos h
    exact .inl ⟨h, e, if_neg (by rw [e]; omega)⟩
  · obtain ⟨j, rfl⟩ := Int.eq_ofNat_of_zero_le h
    rcases Nat.eq_zero_or_pos j with z | z
    · subst z
      have e : powWhy N ((0 : Nat) : Int) = 0 := (if_neg (by omega)).trans (if_pos (.inl rfl))
      exact .inr (.inl ⟨rfl, e, if_pos e⟩)
    · rcases Nat.lt_or_ge (bl N) 2 with b | b
      · have e : powWhy N (j : Int) = 0 := (if_neg (by omega)).trans (if_pos (.inr (by omega)))
        exact .inr (.inr (.inl ⟨j, rfl, z, by omega, e, (if_pos e).trans (by rw [Int.toNat_natCast]), bl_small (by omega) z⟩))
      · have e0 : powWhy N (j : Int) = if 131071 / j < bl N - 1 ∨ 131072 < bl (N ^ j) then 11 else 0 := by
          unfold powWhy
          rw [if_neg (by omega), if_neg (by omega), Int.toNat_natCast]
        rcases Nat.lt_or_ge (131071 / j) (bl N - 1) with q | q
        · have e : powWhy N (j : Int) = 11 := e0.trans (if_pos (.inl q))
          exact .inr (.inr (.inr (.inl ⟨j, rfl, z, b, q, e, if_neg (by rw [e]; omega)⟩)))
        · rcases Nat.lt_or_ge 131072 (bl (N ^ j)) with r | r
          · have e : powWhy N (j : Int) = 11 := e0.trans (if_pos (.inr r))
            exact .inr (.inr (.inr (.inr (.inl ⟨j, rfl, z, b, q, r, e, if_neg (by rw [e]; omega)⟩))))
          · have e : powWhy N (j : Int) = 0 := e0.trans (if_neg (by omega))
            exact .inr (.inr (.inr (.inr (.inr ⟨j, rfl, z, b, q, r, e, (if_pos e).trans (by rw [Int.toNat_natCast])⟩))))

set_option maxHeartbeats 2000000 in
set_option maxRecDepth 100000 in
theorem Power_num {ao : Option Addr} {n ca N : Nat} {w : World} (k : Int) (ha : Num w ao n ca N) (h0 : -9223372036854775808 ≤ k) (h1 : k ≤ 9223372036854775807) : Calls Tryz.prog 140 #[.slice ao n ca, .int .i64 k] w (PowPost (powWhy N k) (powRes N k) w) := by
  obtain ⟨b, hb⟩ : ∃ b, bl N = b := ⟨_, rfl⟩
  have HB := Lib.hid hb
  obtain ⟨kk, hsm⟩ := ha.smp
  have hbb : b ≤ 32 * kk := by rw [← hb]; exact bits_of hsm
  have hkk := hsm.2
  rcases pow_cases N k with ⟨c1, e1, e2⟩ | ⟨rfl, e1, e2⟩ | ⟨j, rfl, c1, c2, e1, e2, e3⟩ | ⟨j, rfl, c1, c2, c3, e1, e2⟩ | ⟨j, rfl, c1, c2, c3, c4, e1, e2⟩ | ⟨j, rfl, c1, c2, c3, c4, e1, e2⟩
  all_goals
    rw [e1, e2]
    clear e1 e2
  · clear hb
    go_enter Tryz.func140, Tryz.ntmps140
    go_wp2_with fail
    refine (Bits_num ha).mono ?_; rintro e w' ⟨rfl, rfl⟩
    rw [HB.out]
    go_wp2_with fail
    go_ret2
    exact PowPost.err
  · clear hb
    go_enter Tryz.func140, Tryz.ntmps140
    go_wp2_with fail
    refine (Bits_num ha).mono ?_; rintro e w' ⟨rfl, rfl⟩
    rw [HB.out]
    go_wp2_with fail
    refine (FromUint_any 1 (by omega) (by omega) _).mono ?_; rintro e w1 ⟨a1, c1, rfl, f1, b1⟩
    go_wp2_with fail
    go_ret2
    exact PowPost.made f1 b1
  · rw [hb] at c2
    have hz : ((j : Int) == 0) = false := beq_eq_false_iff_ne.2 (by omega)
    have E3 := Lib.hid e3
    clear hb e3
    go_enter Tryz.func140, Tryz.ntmps140
    go_wp2_with fail
    refine (Bits_num ha).mono ?_; rintro e w' ⟨rfl, rfl⟩
    rw [HB.out]
    go_wp2_with fail
    refine (Trim_num ha).mono ?_; rintro e w1 ⟨a1, c1, rfl, f1, b1⟩
    go_wp2_with fail
    go_ret2
    rw [E3.out]
    exact PowPost.made f1 b1
  · rw [hb] at c2 c3
    have hz : ((j : Int) == 0) = false := beq_eq_false_iff_ne.2 (by omega)
    obtain ⟨Q, hQ⟩ : ∃ Q, Q = 131071 / j := ⟨_, rfl⟩
    have hq : (131071 : Int) / (j : Int) = (Q : Int) := by rw [hQ]; exact (Int.natCast_ediv 131071 j).symm
    rw [← hQ] at c3
    clear hb hQ
    go_enter Tryz.func140, Tryz.ntmps140
    go_wp2_with fail
    refine (Bits_num ha).mono ?_; rintro e w' ⟨rfl, rfl⟩
    rw [HB.out]
    go_wp2_with fail
    go_ret2
    exact PowPost.err
  all_goals
    obtain ⟨hs, hj⟩ := pow_sm c2 c1 c3
    rw [hb] at c2 c3
    have hz : ((j : Int) == 0) = false := beq_eq_false_iff_ne.2 (by omega)
    obtain ⟨Q, hQ⟩ : ∃ Q, Q = 131071 / j := ⟨_, rfl⟩
    have hq : (131071 : Int) / (j : Int) = (Q : Int) := by rw [hQ]; exact (Int.natCast_ediv 131071 j).symm
    rw [← hQ] at c3
    obtain ⟨r, hr⟩ : ∃ r, bl (N ^ j) = r := ⟨_, rfl⟩
    have s_1 : Sm (N ^ j + 1) (8194 + 1) := ⟨by have := hs.1; rw [pw_succ]; omega, by omega⟩
    have s_p : Sm (N ^ j) 8194 := Sm.of_le hs (by omega)
    have hrb : r ≤ 262208 := by rw [← hr]; exact bits_of s_p
    have HR := Lib.hid hr
    rw [hr] at c4
    clear hb hQ hr hs
    go_enter Tryz.func140, Tryz.ntmps140
    go_wp2_with fail
    refine (Bits_num ha).mono ?_; rintro e w' ⟨rfl, rfl⟩
    rw [HB.out]
    go_wp2_with fail
    refine (power_num ha (by omega) s_1).mono ?_; rintro e w1 ⟨a1, c1, rfl, f1, b1⟩
    have n1 := Num.of_fr f1 s_p
    go_wp2_with fail
    refine (Bits_num n1).mono ?_; rintro e w' ⟨rfl, rfl⟩
    rw [HR.out]
    go_wp2_with fail
    go_ret2
    first | exact ⟨none, 0, rfl, Fr.nil _ _, b1⟩ | exact PowPost.made f1 b1
end Go.Proofs.YtmhjimcdiglpcaaGreatDoor
