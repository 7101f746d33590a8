import Derived.Test.YtdcnkebcpaelpaaGreatDoorNum5
import Derived.Deep.LoopGhost
/- Contract of the reference's short. -/
namespace Go.Proofs.YtdcnkebcpaelpaaGreatDoor
open Go.RowKit

/-- what short gives -/
def ShortPost (N d : Nat) (w : World) (e : Ending) (w' : World) : Prop :=
  ∃ ao c, e = .returned (.tuple #[.slice ao (dig (N / d)).length c, .int .u32 ((N % d : Nat) : Int)]) ∧ Fr w.heap.size w' ao c (dig (N / d)) ∧ Below w.heap.size w w'
theorem ret_short {ao : Option Addr} {n c : Nat} {a b : Int} (h : a = b) : Ending.returned (.tuple #[.slice ao n c, .int .u32 a]) = .returned (.tuple #[.slice ao n c, .int .u32 b]) := by rw [h]

set_option maxHeartbeats 2000000 in
set_option maxRecDepth 100000 in
theorem short_num {ao : Option Addr} {n ca N : Nat} (d : Nat) {w : World} (ha : Num w ao n ca N) (hd : 0 < d) (hd2 : d < 4294967296) : Calls Tryz.prog 67 #[.slice ao n ca, .int .u32 (d : Int)] w (ShortPost N d w) := by
  obtain ⟨xs0, hn0, hrd0, hvN, hl0⟩ := ha
  have hlen0 : (dig N).length ≤ 549755813888 := by
    rw [← hvN]; exact Nat.le_trans (dig_length_val hrd0.lims) hl0
  have hn1 : n ≤ 1099511627776 := by omega
  have hcall := rTrim_num (w := w) ⟨xs0, hn0, hrd0, hvN, hl0⟩
  have HC := Lib.hid hcall
  clear hcall hn0 hrd0 hvN hl0
  go_enter Tryz.func67, Tryz.ntmps67
  go_wp2_with fail
  refine HC.out.mono ?_; rintro e w1 ⟨a1, c1, rfl, f1, b1⟩
  clear HC
  obtain ⟨m, hm⟩ : ∃ m, (dig N).length = m := ⟨_, rfl⟩
  have HM := Lib.hid hm
  rw [hm] at hlen0 ⊢
  clear hm
  rcases Nat.eq_zero_or_pos m with h0 | h0
  · subst h0
    have hN0 : N = 0 := by
      rcases Nat.eq_zero_or_pos N with e | e
      · exact e
      · have := dig_length_pos e; have := HM.out; omega
    subst hN0
    have e1 : Hid (0 / d = 0) := Nat.zero_div d
    have e2 : Hid (0 % d = 0) := Nat.zero_mod d
    have hrd := f1.rd
    go_wp2_with fail
    refine wp_loop_rounds 1 ?_
    rw [rounds_succ]
    go_wp2_with fail
    refine (rTrim_len _ _ _ _ hrd (by simp [dig_zero]) _ rfl).mono ?_; rintro e w2 ⟨a2, c2, rfl, f2, b2⟩
    go_wp2_with fail
    go_ret2
    refine ⟨a2, c2, ?_, ?_, b1.trans (b2.mono b1.size)⟩
    · rw [e1.out, e2.out, val_dig]; rfl
    · rw [e1.out]; rw [val_dig] at f2; exact f2.mono b1.size
  · obtain ⟨b, rfl, hB, hown⟩ : ∃ b, a1 = some ⟨b, 0, none⟩ ∧ w.heap.size ≤ b ∧ Own w1 b (dig N) := by
      obtain ⟨h1, h2, h3, h4⟩ := f1
      rcases h4 with ⟨_, h5, _⟩ | h5
      · have := HM.out; rw [h5] at this; simp at this; omega
      · exact h5
    have hc1 := f1.1
    have hc2 := f1.2.1
    rw [HM.out] at hc1
    obtain ⟨xs, hxs⟩ : ∃ xs, xs = dig N := ⟨_, rfl⟩
    rw [← hxs] at hown HM
    have hlx : Lims xs := by rw [hxs]; exact lims_dig N
    have hvx : Hid (val xs = N) := by show _ = _; rw [hxs, val_dig]
    clear hxs f1
    go_wp2_with fail
    go_loopw [7, 8] (fun s7 s8 wr => ∃ (k r : Nat) (cs : List Nat), k ≤ m ∧ s7 = .int .u64 r ∧ s8 = .int .i64 ((k : Int) - 1) ∧ r < d ∧ Hid (cs.length = m) ∧ Lims cs ∧ Own wr b cs ∧ Below w.heap.size w wr ∧
        Hid (∀ j, j < k → lm cs j = lm xs j) ∧ Hid (val (xs.drop k) = d * val (cs.drop k) + r)) (fun _ s8 _ => (intOf s8 + 1).toNat)
    case atStart => exact ⟨m, 0, xs, Nat.le_refl _, rfl, rfl, hd, HM.out, hlx, hown, b1, fun j _ => rfl, by
      show _ = _
      rw [val_drop_ge xs _ (by rw [HM.out]; exact Nat.le_refl _)]; omega⟩
    case round =>
      obtain ⟨k, r, cs, hk, rfl, rfl, hr, hlen, hlc, hownr, hbl, hlow, hv⟩ := hrel
      by_cases hk0 : 0 < k
      · have hx := hlc (k - 1)
        have hcell := hownr.cell (j := k - 1) (by rw [hlen.out]; omega)
        have hfro := hownr.frozen (k - 1)
        obtain ⟨s, hs⟩ : ∃ s : Nat, s = lm cs (k - 1) + r * 4294967296 := ⟨_, rfl⟩
        have hor : bits BinOp.or IntKind.u64 ((r : Int) * 4294967296) ((lm cs (k - 1) : Nat) : Int) = (s : Int) := by rw [hs]; exact or_join r _ (by omega) hx
        have hsb : (s : Int) ≤ 18446744073709551615 := by omega
        have hq := quo_lt s d r _ hr hx hs
        have hq1 : (s : Int) / (d : Int) ≤ 4294967295 := by
          have e : (s : Int) / (d : Int) = ((s / d : Nat) : Int) := (Int.natCast_ediv s d).symm
          rw [e]; omega
        have hq0 : 0 ≤ (s : Int) / (d : Int) := Int.ediv_nonneg (by omega) (by omega)
        have hsh := Lib.hid hs
        clear hs hq
        go_wp2_with fail
        have e1 : (s : Int) / (d : Int) = ((s / d : Nat) : Int) := (Int.natCast_ediv s d).symm
        have e2 : (s : Int) % (d : Int) = ((s % d : Nat) : Int) := (Int.natCast_emod s d).symm
        rw [e1] at hq1
        have hown2 := hownr.setCell (j := k - 1) (by rw [hlen.out]; omega) (s / d)
        rw [← e1] at hown2
        have hk1 : k - 1 < cs.length := by rw [hlen.out]; omega
        have hk3 : k = k - 1 + 1 := by omega
        have hkm : k - 1 < xs.length := by rw [HM.out]; omega
        go_roundw
        case rel => exact ⟨k - 1, s % d, _, by omega, by rw [e2], by go_num, Nat.mod_lt _ hd, (List.length_set ..).trans hlen.out, lims_set hlc _ _ (by omega), hown2, hbl.setCell hB _,
          fun j hj => by rw [lm_set _ _ _ _ hk1, if_neg (by omega)]; exact hlow.out j (by omega), by
          show _ = _
          rw [val_drop xs _ hkm, val_drop (cs.set (k - 1) (s / d)) _ (by rw [List.length_set]; exact hk1), lm_set _ _ _ _ hk1, if_pos rfl, drop_set_lt _ _ _ _ (by omega)]
          have hv2 := hv.out
          rw [hk3] at hv2
          rw [← hlow.out (k - 1) (by omega)]
          exact short_step _ _ _ _ _ _ _ _ hv2 hsh.out (Nat.div_add_mod s d).symm⟩
        case measure => simp [intOf]; omega
      · obtain rfl : k = 0 := by omega
        have hv2 := hv.out
        rw [List.drop_zero, List.drop_zero, hvx.out] at hv2
        have hmo : Hid (N % d = r) := by show _ = _; rw [hv2, Nat.mul_add_mod]; exact Nat.mod_eq_of_lt hr
        have hq : Hid (val cs = N / d) := by show _ = _; rw [hv2, Nat.mul_add_div hd, Nat.div_eq_of_lt hr]; omega
        have hrd := hownr.rd hlc c1 (by rw [hlen.out]; exact hc1) hc2
        have hrb : r < 4294967296 := by omega
        clear hv2
        go_wp2_with fail
        refine (rTrim_len _ _ _ _ hrd (by rw [hlen.out]; omega) _ hlen.out.symm).mono ?_; rintro e w2 ⟨a2, c2, rfl, f2, b2⟩
        rw [hq.out] at f2 ⊢
        go_wp2_with fail
        go_ret2
        exact ⟨a2, c2, ret_short (by rw [hmo.out]), f2.mono hbl.size, hbl.trans (b2.mono hbl.size)⟩

end Go.Proofs.YtdcnkebcpaelpaaGreatDoor
