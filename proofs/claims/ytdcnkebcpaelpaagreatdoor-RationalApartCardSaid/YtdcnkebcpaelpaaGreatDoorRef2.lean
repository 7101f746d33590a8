import Derived.Test.YtdcnkebcpaelpaaGreatDoorBits
import Derived.Test.YtdcnkebcpaelpaaGreatDoorDiv1
/- The reference's Uint and Compare. -/
namespace Go.Proofs.YtdcnkebcpaelpaaGreatDoor
open Go.RowKit

theorem val_small2 {xs : List Nat} (h : (trim xs).length ≤ 2) : val xs = lm xs 0 + lm xs 1 * 4294967296 := by
  rw [← vl_two, ← vl_trim2 xs, ← val_trim xs]
  exact (vl_ge _ _ h).symm
theorem lm_trim_ge {xs : List Nat} {i : Nat} (h : (trim xs).length ≤ i) : lm xs i = 0 := by rw [← lm_trim]; exact lm_ge _ _ h

set_option maxHeartbeats 800000 in
theorem rCompare_any (ao bo : Option Addr) (ca cb : Nat) (xs ys : List Nat) (w : World) (ha : Rd w ao ca xs) (hb : Rd w bo cb ys) :
    Calls Tryz.prog 53 #[.slice ao xs.length ca, .slice bo ys.length cb] w fun e w' => e = .returned (.int .i64 (cmpn (val xs) (val ys))) ∧ Below w.heap.size w w' := by
  have hma := ha.max
  have hla := ha.le
  have hmb := hb.max
  have hlb := hb.le
  have hlx := trim_length_le xs
  have hly := trim_length_le ys
  by_cases h1 : (trim xs).length < (trim ys).length
  · have hv := Lib.hid (cmpn_lt (trim_short ha.lims hb.lims h1))
    have hd : (((trim xs).length : Int) != (trim ys).length) = true := by rw [bne_iff_ne]; omega
    go_enter Tryz.func53, Tryz.ntmps53
    go_wp2_with fail
    refine (rsize_any _ _ _ _ ha).mono ?_; rintro e w' ⟨rfl, rfl⟩
    go_wp2_with fail
    refine (rsize_any _ _ _ _ hb).mono ?_; rintro e w' ⟨rfl, rfl⟩
    go_wp2
    go_ret
    exact ⟨ret_i64 hv.out.symm, Below.refl _ _⟩
  · by_cases h2 : (trim ys).length < (trim xs).length
    · have hv := Lib.hid (cmpn_gt (trim_short hb.lims ha.lims h2))
      have hd : (((trim xs).length : Int) != (trim ys).length) = true := by rw [bne_iff_ne]; omega
      go_enter Tryz.func53, Tryz.ntmps53
      go_wp2_with fail
      refine (rsize_any _ _ _ _ ha).mono ?_; rintro e w' ⟨rfl, rfl⟩
      go_wp2_with fail
      refine (rsize_any _ _ _ _ hb).mono ?_; rintro e w' ⟨rfl, rfl⟩
      go_wp2
      go_ret
      exact ⟨ret_i64 hv.out.symm, Below.refl _ _⟩
    · obtain ⟨n, hn⟩ : ∃ n, n = (trim xs).length := ⟨_, rfl⟩
      have hn2 : (trim ys).length = n := by omega
      have hnx : n ≤ xs.length := by omega
      have hny : n ≤ ys.length := by omega
      have Hn := Lib.hid hn
      have Hn2 := Lib.hid hn2
      clear h1 h2 hn hn2 hlx hly
      go_enter Tryz.func53, Tryz.ntmps53
      go_wp2_with fail
      refine (rsize_any _ _ _ _ ha).mono ?_; rintro e w' ⟨rfl, rfl⟩
      rw [← Hn.out]
      go_wp2_with fail
      refine (rsize_any _ _ _ _ hb).mono ?_; rintro e w' ⟨rfl, rfl⟩
      rw [Hn2.out]
      go_wp2
      go_loopw [7] (fun s wr => ∃ k : Nat, k ≤ n ∧ s = .int .i64 ((k : Int) - 1) ∧ Hid (∀ j, k ≤ j → j < n → lm xs j = lm ys j) ∧ Below w.heap.size w wr) (fun s _ => (intOf s + 1).toNat)
      case atStart => exact ⟨n, Nat.le_refl _, rfl, fun j h1 h2 => by omega, Below.refl _ _⟩
      case round =>
        obtain ⟨k, hk, rfl, he, hbl⟩ := hrel
        by_cases hk0 : 0 < k
        · obtain ⟨b, o, rfl, hc⟩ := (ha.below hbl).at (by omega)
          obtain ⟨b', o', rfl, hc'⟩ := (hb.below hbl).at (by omega)
          have c1 := hc (k - 1) (by omega)
          have c2 := hc' (k - 1) (by omega)
          have hx := ha.lims (k - 1)
          have hy := hb.lims (k - 1)
          clear hc hc'
          go_wp2_with fail
          go_quiet (fail)
          go_wp2_with fail
          · have h1 : lm xs (k - 1) < lm ys (k - 1) := by assumption
            go_ret
            have hv := val_lt_top (lims_trim ha.lims) (k - 1) n (by rw [← Hn.out]; exact Nat.le_refl _) (by rw [Hn2.out]; exact Nat.le_refl _) (by omega) (fun j h2 h3 => by rw [lm_trim, lm_trim]; exact he.out j (by omega) h3) (by rw [lm_trim, lm_trim]; exact h1)
            rw [val_trim, val_trim] at hv
            exact ⟨ret_i64 (cmpn_lt hv).symm, by first | exact below_drewN hbl _ | exact below_drewN (below_drewN hbl _) _⟩
          · go_quiet (fail)
            go_wp2
            · have h1 : lm ys (k - 1) < lm xs (k - 1) := by assumption
              go_ret
              have hv := val_lt_top (lims_trim hb.lims) (k - 1) n (by rw [Hn2.out]; exact Nat.le_refl _) (by rw [← Hn.out]; exact Nat.le_refl _) (by omega) (fun j h2 h3 => by rw [lm_trim, lm_trim]; exact (he.out j (by omega) h3).symm) (by rw [lm_trim, lm_trim]; exact h1)
              rw [val_trim, val_trim] at hv
              exact ⟨ret_i64 (cmpn_gt hv).symm, by first | exact below_drewN hbl _ | exact below_drewN (below_drewN hbl _) _⟩
            · have h1 : ¬ lm xs (k - 1) < lm ys (k - 1) := by assumption
              have h2 : ¬ lm ys (k - 1) < lm xs (k - 1) := by assumption
              go_roundw
              case rel => exact ⟨k - 1, by omega, by go_num, fun j h3 h4 => by
                by_cases e : j = k - 1
                · subst e; omega
                · exact he.out j (by omega) h4, by first | exact below_drewN hbl _ | exact below_drewN (below_drewN hbl _) _⟩
              case measure => simp [intOf]; omega
        · obtain rfl : k = 0 := by omega
          have hv := val_eq_all (xs := trim xs) (ys := trim ys) n (by rw [← Hn.out]; exact Nat.le_refl _) (by rw [Hn2.out]; exact Nat.le_refl _) (fun j h => by rw [lm_trim, lm_trim]; exact he.out j (by omega) h)
          rw [val_trim, val_trim] at hv
          have hv2 := Lib.hid (cmpn_eq hv)
          clear hv
          go_wp2
          go_ret
          exact ⟨ret_i64 hv2.out.symm, hbl⟩
end Go.Proofs.YtdcnkebcpaelpaaGreatDoor
