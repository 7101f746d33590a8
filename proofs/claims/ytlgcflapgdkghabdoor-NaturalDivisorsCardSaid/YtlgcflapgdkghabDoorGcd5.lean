/- Contract of natural.GCD. -/
import Derived.Test.YtlgcflapgdkghabDoorGcd4
import Derived.Deep.LoopGhost
namespace Go.Proofs.YtlgcflapgdkghabDoor
open Go.RowKit

theorem Num.sm {w : World} {ao : Option Addr} {n cap N : Nat} (h : Num w ao n cap N) : ∃ k, Sm N k := by
  obtain ⟨xs, h1, h2, rfl, h4⟩ := h
  exact ⟨xs.length, val_lt h2.lims, h4⟩
theorem Uint_numS {ao : Option Addr} {n ca N : Nat} {w : World} (ha : Num w ao n ca N) (hN : N < 18446744073709551616) : Calls Tryd.prog 21 #[.slice ao n ca] w fun e w' => e = .returned (.tuple #[.int .u64 (N : Int), .bool true]) ∧ w = w' := by
  obtain ⟨xs, rfl, h1, rfl, h2⟩ := ha
  refine (Uint_any ao ca xs w h1).mono ?_
  rintro e w' ⟨rfl, rfl⟩
  rw [fits_yes hN, fitv_yes hN]
  exact ⟨rfl, rfl⟩
theorem big_of_len {P : Nat} (h : 2 < (dig P).length) : 65 ≤ bl P := by
  have h1 : pw 2 ≤ P := by
    rcases Nat.lt_or_ge P (pw 2) with e | e
    · have := dig_length_le P 2 e; omega
    · exact e
  have h2 : 2 ^ 64 ≤ P := by rw [pw_two] at h1; exact h1
  exact bl_lt.2 h2
theorem small_of_len {P : Nat} (h : (dig P).length ≤ 2) : P < 18446744073709551616 := by
  have := val_lt (lims_dig P)
  rw [val_dig] at this
  have h2 := pw_mono h
  have h3 : pw 2 = 18446744073709551616 := by simp [pw]
  omega
theorem pos_of_len {P : Nat} (h : 0 < (dig P).length) : 0 < P := by
  rcases Nat.eq_zero_or_pos P with e | e
  · subst e; simp [dig_zero] at h
  · exact e
theorem zero_of_len {P : Nat} (h : (dig P).length = 0) : P = 0 := by
  rcases Nat.eq_zero_or_pos P with e | e
  · exact e
  · have := dig_length_pos e; omega

/-- the pair in the loop: it has the divisors of the first one -/
def Pair (B G k : Nat) (g : Nat) (s5 s6 : Value) (wr : World) : Prop :=
  ∃ P Q a1 c1 a2 c2, s5 = .slice a1 (dig P).length c1 ∧ s6 = .slice a2 (dig Q).length c2 ∧ Fr B wr a1 c1 (dig P) ∧ Fr B wr a2 c2 (dig Q) ∧ Q ≤ P ∧ Nat.gcd P Q = G ∧ Sm P k ∧ g = Q

set_option maxHeartbeats 4000000 in
set_option maxRecDepth 100000 in
theorem GCD_num {ao bo : Option Addr} {n m ca cb N M : Nat} {w : World} (ha : Num w ao n ca N) (hb : Num w bo m cb M) : Calls Tryd.prog 6 #[.slice ao n ca, .slice bo m cb] w (Makes (Nat.gcd N M) w) := by
  obtain ⟨k1, s1⟩ := ha.sm
  obtain ⟨k2, s2⟩ := hb.sm
  obtain ⟨G, hG⟩ : ∃ G, Nat.gcd N M = G := ⟨_, rfl⟩
  rw [hG]
  have HG := Lib.hid hG
  clear hG
  have hcm : Hid (cmpn N M < 0 ∧ N < M ∨ ¬ cmpn N M < 0 ∧ M ≤ N) := by
    rcases Nat.lt_or_ge N M with h | h
    · left; rw [cmpn_lt h]; exact ⟨by omega, h⟩
    · right
      rcases Nat.eq_or_lt_of_le h with e | e
      · rw [cmpn_eq e.symm]; exact ⟨by omega, h⟩
      · rw [cmpn_gt e]; exact ⟨by omega, h⟩
  obtain ⟨c, hc⟩ : ∃ c, cmpn N M = c := ⟨_, rfl⟩
  rw [hc] at hcm
  have HC := Lib.hid hc
  clear hc
  rcases hcm.out with ⟨hneg, hlt⟩ | ⟨hneg, hle⟩
  · clear hcm
    go_enter Tryd.func6, Tryd.ntmps6
    go_wp2_with fail
    refine (Trim_num ha).mono ?_; rintro e w1 ⟨a1, c1, rfl, f1, b1⟩
    replace hb := hb.below b1
    go_wp2_with fail
    refine (Trim_num hb).mono ?_; rintro e w2 ⟨a2, c2, rfl, f2, b2⟩
    replace f1 := f1.below b2
    have n1 := Num.of_fr f1 s1
    have n2 := Num.of_fr f2 s2
    have f2' := f2.mono b1.size
    have B := b1.trans (b2.mono b1.size)
    go_wp2_with fail
    refine (Compare_num n1 n2).mono ?_; rintro e w' ⟨rfl, rfl⟩
    rw [HC.out]
    go_wp2_with fail
    go_loopg [5, 6] N (fun g s5 s6 wr => Pair w.heap.size G k2 g s5 s6 wr ∧ Below w.heap.size w wr)
    case atStart => exact ⟨⟨M, N, _, _, _, _, rfl, rfl, f2', f1, by omega, by rw [Nat.gcd_comm]; exact HG.out, s2, rfl⟩, B⟩
    case round =>
      obtain ⟨⟨P, Q, x1, y1, x2, y2, rfl, rfl, p1, p2, hQP, hgcd, hsm, hgk⟩, hbl⟩ := hrel
      have GK := Lib.hid hgk
      have GC := Lib.hid hgcd
      have np := Num.of_fr p1 hsm
      have nq := Num.of_fr p2 (Sm.of_le hsm hQP)
      have hlp := p1.1
      have hlq := p2.1
      have hmp := p1.2.1
      have hmq := p2.2.1
      clear hgk hgcd ha hb f1 f2 f2' n1 n2 B
      rcases Nat.eq_zero_or_pos (dig Q).length with h0 | h0
      · have hz := zero_of_len h0
        have hPG : Hid (P = G) := by show _ = _; have := GC.out; rw [hz, Nat.gcd_zero_right] at this; exact this
        have hd : (((dig Q).length : Int) == 0) = true := beq_iff_eq.2 (by omega)
        have H0 := Lib.hid h0
        have hq0 : (((dig Q).length : Nat) : Int) ≤ 0 := by omega
        clear hz h0
        by_cases h3 : 2 < (dig P).length
        all_goals
          go_wp2_with fail
          go_ret
          rw [hPG.out] at p1
          exact ⟨_, _, ret_len (by rw [hPG.out]), p1, hbl⟩
      · have hd : (((dig Q).length : Int) == 0) = false := beq_eq_false_iff_ne.2 (by omega)
        by_cases h3 : 2 < (dig P).length
        · go_wp2_with fail
          refine (reduce_any w.heap.size _ _ _ _ P Q _ wr p1 p2 (big_of_len h3) (pos_of_len h0) hQP hsm hbl.size).mono ?_; rintro e w3 ⟨P', Q', x3, y3, x4, y4, rfl, q1, q2, b3, hg2, hlt2, hle2, hPP⟩
          clear p1 p2
          go_wp2_with fail
          go_roundg Q'
          case measure => rw [GK.out]; exact hlt2
          case rel => exact ⟨⟨P', Q', _, _, _, _, rfl, rfl, q1, q2, hle2, hg2.trans GC.out, Sm.of_le hsm hPP, rfl⟩, hbl.trans (b3.mono hbl.size)⟩
        · have hPb := small_of_len (show (dig P).length ≤ 2 by omega)
          go_wp2_with fail
          refine (Uint_numS np hPb).mono ?_; rintro e w' ⟨rfl, rfl⟩
          go_wp2_with fail
          refine (Uint_numS nq (by omega)).mono ?_; rintro e w' ⟨rfl, rfl⟩
          go_wp2_with fail
          obtain ⟨wo, rfl⟩ : ∃ wo : World, wo = wr := ⟨_, rfl⟩
          go_loopg [7, 9] Q (fun g s7 s9 wi => ∃ u v : Nat, s7 = .int .u64 u ∧ s9 = .int .u64 v ∧ u < 18446744073709551616 ∧ v < 18446744073709551616 ∧ Nat.gcd u v = G ∧ g = v ∧ Below w.heap.size w wi)
          case atStart => exact ⟨P, Q, rfl, rfl, hPb, by omega, GC.out, rfl, hbl⟩
          case round =>
            obtain ⟨u, v, rfl, rfl, hu, hv, hg3, hgv, hbi⟩ := hrel
            have G3 := Lib.hid hg3
            have GV := Lib.hid hgv
            have hui : (u : Int) ≤ 18446744073709551615 := by omega
            have hvi : (v : Int) ≤ 18446744073709551615 := by omega
            clear hg3 hgv hu hv p1 p2 np nq
            rcases Nat.eq_zero_or_pos v with hv0 | hv0
            · subst hv0
              have hUG : Hid (u = G) := by show _ = _; have := G3.out; rw [Nat.gcd_zero_right] at this; exact this
              go_wp2_with fail
              refine (FromUint_any (u : Int) (by omega) hui _).mono ?_; rintro e w4 ⟨a4, c4, rfl, f4, b4⟩
              rw [Int.toNat_natCast, hUG.out] at f4
              go_wp2_with fail
              go_ret
              exact ⟨_, _, ret_len (by rw [hUG.out]), f4.mono hbi.size, hbi.trans (b4.mono hbi.size)⟩
            · have hdv : ((v : Int) != 0) = true := by rw [bne_iff_ne]; omega
              have hdv2 : ((v : Int) == 0) = false := beq_eq_false_iff_ne.2 (by omega)
              have hr : (u : Int) % (v : Int) = ((u % v : Nat) : Int) := (Int.natCast_emod u v).symm
              have HR := Lib.hid hr
              have hrv := Nat.mod_lt u hv0
              clear hr
              go_wp2_with fail
              go_quiet (fail)
              go_wp2_with fail
              go_roundg (u % v)
              case measure => rw [GV.out]; exact hrv
              case rel => exact ⟨v, u % v, rfl, by rw [HR.out], by omega, by omega, by rw [Nat.gcd_comm, ← Nat.gcd_rec, Nat.gcd_comm]; exact G3.out, rfl, below_drewN hbi _⟩
  · clear hcm
    go_enter Tryd.func6, Tryd.ntmps6
    go_wp2_with fail
    refine (Trim_num ha).mono ?_; rintro e w1 ⟨a1, c1, rfl, f1, b1⟩
    replace hb := hb.below b1
    go_wp2_with fail
    refine (Trim_num hb).mono ?_; rintro e w2 ⟨a2, c2, rfl, f2, b2⟩
    replace f1 := f1.below b2
    have n1 := Num.of_fr f1 s1
    have n2 := Num.of_fr f2 s2
    have f2' := f2.mono b1.size
    have B := b1.trans (b2.mono b1.size)
    go_wp2_with fail
    refine (Compare_num n1 n2).mono ?_; rintro e w' ⟨rfl, rfl⟩
    rw [HC.out]
    go_wp2_with fail
    go_loopg [5, 6] M (fun g s5 s6 wr => Pair w.heap.size G k1 g s5 s6 wr ∧ Below w.heap.size w wr)
    case atStart => exact ⟨⟨N, M, _, _, _, _, rfl, rfl, f1, f2', hle, HG.out, s1, rfl⟩, B⟩
    case round =>
      obtain ⟨⟨P, Q, x1, y1, x2, y2, rfl, rfl, p1, p2, hQP, hgcd, hsm, hgk⟩, hbl⟩ := hrel
      have GK := Lib.hid hgk
      have GC := Lib.hid hgcd
      have np := Num.of_fr p1 hsm
      have nq := Num.of_fr p2 (Sm.of_le hsm hQP)
      have hlp := p1.1
      have hlq := p2.1
      have hmp := p1.2.1
      have hmq := p2.2.1
      clear hgk hgcd ha hb f1 f2 f2' n1 n2 B
      rcases Nat.eq_zero_or_pos (dig Q).length with h0 | h0
      · have hz := zero_of_len h0
        have hPG : Hid (P = G) := by show _ = _; have := GC.out; rw [hz, Nat.gcd_zero_right] at this; exact this
        have hd : (((dig Q).length : Int) == 0) = true := beq_iff_eq.2 (by omega)
        have H0 := Lib.hid h0
        have hq0 : (((dig Q).length : Nat) : Int) ≤ 0 := by omega
        clear hz h0
        by_cases h3 : 2 < (dig P).length
        all_goals
          go_wp2_with fail
          go_ret
          rw [hPG.out] at p1
          exact ⟨_, _, ret_len (by rw [hPG.out]), p1, hbl⟩
      · have hd : (((dig Q).length : Int) == 0) = false := beq_eq_false_iff_ne.2 (by omega)
        by_cases h3 : 2 < (dig P).length
        · go_wp2_with fail
          refine (reduce_any w.heap.size _ _ _ _ P Q _ wr p1 p2 (big_of_len h3) (pos_of_len h0) hQP hsm hbl.size).mono ?_; rintro e w3 ⟨P', Q', x3, y3, x4, y4, rfl, q1, q2, b3, hg2, hlt2, hle2, hPP⟩
          clear p1 p2
          go_wp2_with fail
          go_roundg Q'
          case measure => rw [GK.out]; exact hlt2
          case rel => exact ⟨⟨P', Q', _, _, _, _, rfl, rfl, q1, q2, hle2, hg2.trans GC.out, Sm.of_le hsm hPP, rfl⟩, hbl.trans (b3.mono hbl.size)⟩
        · have hPb := small_of_len (show (dig P).length ≤ 2 by omega)
          go_wp2_with fail
          refine (Uint_numS np hPb).mono ?_; rintro e w' ⟨rfl, rfl⟩
          go_wp2_with fail
          refine (Uint_numS nq (by omega)).mono ?_; rintro e w' ⟨rfl, rfl⟩
          go_wp2_with fail
          obtain ⟨wo, rfl⟩ : ∃ wo : World, wo = wr := ⟨_, rfl⟩
          go_loopg [7, 9] Q (fun g s7 s9 wi => ∃ u v : Nat, s7 = .int .u64 u ∧ s9 = .int .u64 v ∧ u < 18446744073709551616 ∧ v < 18446744073709551616 ∧ Nat.gcd u v = G ∧ g = v ∧ Below w.heap.size w wi)
          case atStart => exact ⟨P, Q, rfl, rfl, hPb, by omega, GC.out, rfl, hbl⟩
          case round =>
            obtain ⟨u, v, rfl, rfl, hu, hv, hg3, hgv, hbi⟩ := hrel
            have G3 := Lib.hid hg3
            have GV := Lib.hid hgv
            have hui : (u : Int) ≤ 18446744073709551615 := by omega
            have hvi : (v : Int) ≤ 18446744073709551615 := by omega
            clear hg3 hgv hu hv p1 p2 np nq
            rcases Nat.eq_zero_or_pos v with hv0 | hv0
            · subst hv0
              have hUG : Hid (u = G) := by show _ = _; have := G3.out; rw [Nat.gcd_zero_right] at this; exact this
              go_wp2_with fail
              refine (FromUint_any (u : Int) (by omega) hui _).mono ?_; rintro e w4 ⟨a4, c4, rfl, f4, b4⟩
              rw [Int.toNat_natCast, hUG.out] at f4
              go_wp2_with fail
              go_ret
              exact ⟨_, _, ret_len (by rw [hUG.out]), f4.mono hbi.size, hbi.trans (b4.mono hbi.size)⟩
            · have hdv : ((v : Int) != 0) = true := by rw [bne_iff_ne]; omega
              have hdv2 : ((v : Int) == 0) = false := beq_eq_false_iff_ne.2 (by omega)
              have hr : (u : Int) % (v : Int) = ((u % v : Nat) : Int) := (Int.natCast_emod u v).symm
              have HR := Lib.hid hr
              have hrv := Nat.mod_lt u hv0
              clear hr
              go_wp2_with fail
              go_quiet (fail)
              go_wp2_with fail
              go_roundg (u % v)
              case measure => rw [GV.out]; exact hrv
              case rel => exact ⟨v, u % v, rfl, by rw [HR.out], by omega, by omega, by rw [Nat.gcd_comm, ← Nat.gcd_rec, Nat.gcd_comm]; exact G3.out, rfl, below_drewN hbi _⟩
end Go.Proofs.YtlgcflapgdkghabDoor
