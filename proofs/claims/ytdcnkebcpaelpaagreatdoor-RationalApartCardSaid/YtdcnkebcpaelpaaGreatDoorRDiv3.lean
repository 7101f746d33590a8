import Derived.Test.YtdcnkebcpaelpaaGreatDoorRDiv2
import Derived.Test.YtdcnkebcpaelpaaGreatDoorRShort
import Derived.Test.YtdcnkebcpaelpaaGreatDoorGcds2
/- Contract of the reference's Divide, for every divisor above 0. -/
namespace Go.Proofs.YtdcnkebcpaelpaaGreatDoor
open Go.RowKit

set_option maxHeartbeats 1000000 in
set_option maxRecDepth 100000 in
theorem rDivide_less (ao bo : Option Addr) (ca cb : Nat) (xs ys : List Nat) (w : World) (ha : Rd w ao ca xs) (hb : Rd w bo cb ys) (h : val xs < val ys) (hx : xs.length ≤ 549755813888) :
    Calls Tryz.prog 52 #[.slice ao xs.length ca, .slice bo ys.length cb] w (DivPost (val xs) (val ys) w) := by
  have h0 : Hid (val xs / val ys = 0) := Nat.div_eq_of_lt h
  have h1 : Hid (val xs % val ys = val xs) := Nat.mod_eq_of_lt h
  have hc := Lib.hid (cmpn_lt h)
  obtain ⟨n, hn⟩ : ∃ n, n = (trim ys).length := ⟨_, rfl⟩
  have hn0 : 0 < n := by
    rcases Nat.eq_zero_or_pos n with e | e
    · rw [e] at hn
      have h2 : trim ys = [] := List.eq_nil_of_length_eq_zero hn.symm
      have h3 := val_trim ys
      rw [h2] at h3
      have : val ys = 0 := h3.symm
      omega
    · exact e
  have hsy : ∀ w' : World, Rd w' bo cb ys → Calls Tryz.prog 49 #[.slice bo ys.length cb] w' fun e w'' => e = .returned (.int .i64 ((n : Nat) : Int)) ∧ w' = w'' := fun w' h => by rw [hn]; exact rsize_any bo cb ys w' h
  have hd0 : ((n : Int) == 0) = false := beq_eq_false_iff_ne.2 (by omega)
  have hxb : xs.length ≤ 1099511627776 := by omega
  have SY := Lib.hid hsy
  clear h hn hsy
  go_enter Tryz.func52, Tryz.ntmps52
  go_wp2_with fail
  refine (SY.out _ hb).mono ?_; rintro e w' ⟨rfl, rfl⟩
  go_wp2_with fail
  refine (rCompare_any _ _ _ _ _ _ _ ha hb).mono ?_; rintro e w0 ⟨rfl, hb0⟩
  rw [hc.out]
  go_wp2_with fail
  refine (rTrim_any _ _ _ _ (ha.below hb0) hxb).mono ?_; rintro e w1 ⟨ao', cap', rfl, hf, hb1⟩
  go_wp2_with fail
  go_ret3
  refine ⟨none, 0, ao', cap', ?_, ?_, ?_, hb0.trans (hb1.mono hb0.size)⟩
  · rw [h0.out, h1.out]; rfl
  · rw [h0.out]; exact Fr.nil _ _
  · rw [h1.out]; exact hf.mono hb0.size

set_option maxHeartbeats 1000000 in
set_option maxRecDepth 100000 in
theorem rDivide_one (ao bo : Option Addr) (ca cb : Nat) (xs ys : List Nat) (w : World) (ha : Rd w ao ca xs) (hb : Rd w bo cb ys) (h1 : (trim ys).length = 1) (hle : val ys ≤ val xs) (hx : xs.length ≤ 549755813888) :
    Calls Tryz.prog 52 #[.slice ao xs.length ca, .slice bo ys.length cb] w (DivPost (val xs) (val ys) w) := by
  have hc0 : 0 ≤ cmpn (val xs) (val ys) := by
    rcases Nat.lt_or_eq_of_le hle with e | e
    · rw [cmpn_gt e]; omega
    · rw [cmpn_eq e.symm]; exact Int.le_refl 0
  have hl := trim_length_le ys
  obtain ⟨bk, ok, rfl, hcb⟩ := hb.at (by omega)
  have hc1 := hcb 0 (by omega)
  have hlb := hb.lims 0
  obtain ⟨d, hd⟩ : ∃ d, d = lm ys 0 := ⟨_, rfl⟩
  rw [← hd] at hc1 hlb
  have hvd : val ys = d := by
    have h2 := vl_ge (trim ys) 1 (by omega)
    rw [val_trim] at h2
    rw [← h2, vl, vl, lm_trim, pw_zero, ← hd]; omega
  have hdp : 0 < d := by
    rcases canon_trim ys with e | e
    · rw [e] at h1; simp at h1
    · rw [h1, Nat.sub_self, lm_trim, ← hd] at e; omega
  have hsy : ∀ w' : World, Rd w' (some ⟨bk, ok, none⟩) cb ys → Calls Tryz.prog 49 #[.slice (some ⟨bk, ok, none⟩) ys.length cb] w' fun e w'' => e = .returned (.int .i64 1) ∧ w' = w'' := fun w' h => by
    have := rsize_any (some ⟨bk, ok, none⟩) cb ys w' h; rw [h1] at this; exact this
  have SY := Lib.hid hsy
  have HV := Lib.hid hvd
  have hylen : 0 < ys.length := by omega
  have na : Num w ao xs.length ca (val xs) := Num.of_rd ha hx
  have hmx := hb.max
  have hle2 := hb.le
  clear hsy hcb hd hvd hl h1 hle
  go_enter Tryz.func52, Tryz.ntmps52
  go_wp2_with fail
  refine (SY.out _ hb).mono ?_; rintro e w' ⟨rfl, rfl⟩
  go_wp2_with fail
  refine (rCompare_any _ _ _ _ _ _ _ ha hb).mono ?_; rintro e w0 ⟨rfl, hb0⟩
  have hct0 : w0.cell? ⟨bk, ok, none⟩ = some (.int .u32 (d : Int)) := by
    have := hb0.cell (p := ⟨bk, ok + 0, none⟩) (World.block_lt_of_cell? w _ hc1)
    rw [Nat.add_zero] at this hc1
    rw [this]; exact hc1
  have na0 := na.below hb0
  clear hc1
  go_wp2_with fail
  refine (short_num d na0 hdp hlb).mono ?_; rintro e w1 ⟨a1, c1, rfl, f1, b1⟩
  obtain ⟨r, hr⟩ : ∃ r, r = val xs % d := ⟨_, rfl⟩
  have hrb : r < 4294967296 := by have := Nat.mod_lt (val xs) hdp; omega
  rw [← hr]
  have HR := Lib.hid hr
  clear hr
  go_wp2_with fail
  refine (rFromUint_any (r : Int) (by omega) (by omega) _).mono ?_; rintro e w2 ⟨a2, c2, rfl, f2, b2⟩
  rw [Int.toNat_natCast] at f2 ⊢
  have B := hb0.trans (b1.mono hb0.size)
  go_wp2_with fail
  go_ret3
  refine ⟨a1, c1, a2, c2, ?_, ?_, ?_, B.trans (b2.mono B.size)⟩
  · rw [HV.out, ← HR.out]; rfl
  · rw [HV.out]; exact (f1.mono hb0.size).below b2
  · rw [HV.out, ← HR.out]; exact f2.mono B.size

theorem rDivide_numD {ao bo : Option Addr} {n m ca cb N M Q R : Nat} {w : World} (ha : Num w ao n ca N) (hb : Num w bo m cb M) (hp : 0 < M) (hQ : N / M = Q) (hR : N % M = R) : Calls Tryz.prog 52 #[.slice ao n ca, .slice bo m cb] w (Divs Q R w) := by
  subst hQ; subst hR
  obtain ⟨xs, rfl, h1, rfl, h2⟩ := ha
  obtain ⟨ys, rfl, h3, rfl, h4⟩ := hb
  rcases Nat.lt_or_ge (val xs) (val ys) with e | e
  · exact rDivide_less ao bo ca cb xs ys w h1 h3 e h2
  · rcases Nat.lt_or_ge (trim ys).length 2 with k | k
    · refine rDivide_one ao bo ca cb xs ys w h1 h3 ?_ e h2
      rcases Nat.eq_zero_or_pos (trim ys).length with z | z
      · have h5 : trim ys = [] := List.eq_nil_of_length_eq_zero z
        have h6 := val_trim ys
        rw [h5] at h6
        have : val ys = 0 := h6.symm
        omega
      · omega
    · exact rDivide_long ao bo ca cb xs ys w h1 h3 k e h2

set_option maxHeartbeats 4000000 in
set_option maxRecDepth 100000 in
theorem rGCD_num {ao bo : Option Addr} {n m ca cb N M k : Nat} {w : World} (ha : Num w ao n ca N) (hb : Num w bo m cb M) (sa : Sm N k) (sb : Sm M k) : Calls Tryz.prog 51 #[.slice ao n ca, .slice bo m cb] w (Makes (Nat.gcd N M) w) := by
  obtain ⟨G, hG⟩ : ∃ G, Nat.gcd N M = G := ⟨_, rfl⟩
  rw [hG]
  have HG := Lib.hid hG
  clear hG
  go_enter Tryz.func51, Tryz.ntmps51
  go_wp2_with fail
  refine (rTrim_num ha).mono ?_; rintro e w1 ⟨a1, c1, rfl, f1, b1⟩
  replace hb := hb.below b1
  go_wp2_with fail
  refine (rTrim_num hb).mono ?_; rintro e w2 ⟨a2, c2, rfl, f2, b2⟩
  replace f1 := f1.below b2
  have f2' := f2.mono b1.size
  have B := b1.trans (b2.mono b1.size)
  clear ha hb f2
  go_wp2_with fail
  go_loopg [0, 1] M (fun g s0 s1 wr => (∃ P Q x1 y1 x2 y2, s0 = .slice x1 (dig P).length y1 ∧ s1 = .slice x2 (dig Q).length y2 ∧ Fr w.heap.size wr x1 y1 (dig P) ∧ Fr w.heap.size wr x2 y2 (dig Q) ∧ Hid (Nat.gcd P Q = G) ∧ Sm P k ∧ Sm Q k ∧ g = Q) ∧ Below w.heap.size w wr)
  case atStart => exact ⟨⟨N, M, _, _, _, _, rfl, rfl, f1, f2', HG.out, sa, sb, rfl⟩, B⟩
  case round =>
    obtain ⟨⟨P, Q, x1, y1, x2, y2, rfl, rfl, p1, p2, hgcd, sp, sq, hgk⟩, hbl⟩ := hrel
    have GK := Lib.hid hgk
    have np := Num.of_fr p1 sp
    have nq := Num.of_fr p2 sq
    have hlp := p1.1
    have hlq := p2.1
    have hmp := p1.2.1
    have hmq := p2.2.1
    clear hgk f1 f2' B
    rcases Nat.eq_zero_or_pos (dig Q).length with h0 | h0
    · have hz := zero_of_len h0
      have hPG : Hid (P = G) := by show _ = _; have := hgcd.out; rw [hz, Nat.gcd_zero_right] at this; exact this
      have hq0 : (((dig Q).length : Nat) : Int) ≤ 0 := by omega
      clear hz h0
      go_wp2_with fail
      go_ret
      rw [hPG.out] at p1
      exact ⟨_, _, ret_len (by rw [hPG.out]), p1, hbl⟩
    · have hQ := Lib.hid (pos_of_len h0)
      go_wp2_with fail
      refine (rDivide_numD np nq hQ.out rfl rfl).mono ?_; rintro e w3 ⟨qo, qc, ro, rc, rfl, fq, fr, b3⟩
      have p2' := p2.below b3
      have fr' := fr.mono hbl.size
      have hlt := Lib.hid (Nat.mod_lt P hQ.out)
      have sr : Sm (P % Q) k := Sm.of_le sq (Nat.le_of_lt hlt.out)
      have hg3 : Hid (Nat.gcd Q (P % Q) = G) := by
        show _ = _; rw [Nat.gcd_comm, ← Nat.gcd_rec, Nat.gcd_comm]; exact hgcd.out
      clear np nq p1 p2 fq fr
      go_wp2_with fail
      go_roundg (P % Q)
      case measure => rw [GK.out]; exact hlt.out
      case rel => exact ⟨⟨Q, P % Q, _, _, _, _, rfl, rfl, p2', fr', hg3.out, sq, sr, rfl⟩, hbl.trans (b3.mono hbl.size)⟩
end Go.Proofs.YtdcnkebcpaelpaaGreatDoor
