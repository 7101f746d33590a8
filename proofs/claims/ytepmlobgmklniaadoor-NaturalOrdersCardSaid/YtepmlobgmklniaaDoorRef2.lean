/- The reference's Uint and Compare. -/
import Derived.Test.YtepmlobgmklniaaDoorBits
import Derived.Test.YtepmlobgmklniaaDoorDiv1
namespace Go.Proofs.YtepmlobgmklniaaDoor
open Go.RowKit

theorem val_small2 {xs : List Nat} (h : (trim xs).length ≤ 2) : val xs = lm xs 0 + lm xs 1 * 4294967296 := by
  rw [← vl_two, ← vl_trim2 xs, ← val_trim xs]
  exact (vl_ge _ _ h).symm
theorem lm_trim_ge {xs : List Nat} {i : Nat} (h : (trim xs).length ≤ i) : lm xs i = 0 := by rw [← lm_trim]; exact lm_ge _ _ h

set_option maxHeartbeats 800000 in
theorem rUint_any (ao : Option Addr) (cap : Nat) (xs : List Nat) (w : World) (h : Rd w ao cap xs) (hb : xs.length ≤ 1099511627776) :
    Calls Tryd.prog 19 #[.slice ao xs.length cap] w fun e w' => e = .returned (.tuple #[.int .u64 ((fitv (val xs) : Nat) : Int), .bool (fits (val xs))]) ∧ w = w' := by
  have hs := dig_small h.lims
  have h0 := h.lims 0
  have h1 := h.lims 1
  have hm := h.max
  have hle := h.le
  have hl := trim_length_le xs
  by_cases hbig : 18446744073709551616 ≤ val xs
  · have hb2 : 2 < (trim xs).length := hs.2 hbig
    have e1 := Lib.hid (fits_no (n := val xs) (by omega))
    have e2 := Lib.hid (fitv_no (n := val xs) (by omega))
    clear hs hbig
    go_enter Tryd.func19, Tryd.ntmps19
    go_wp2_with fail
    refine (rsize_any _ _ _ _ h).mono ?_; rintro e w' ⟨rfl, rfl⟩
    go_wp2
    refine wp_loop_rounds 1 ?_
    rw [rounds_succ]
    go_wp2
    go_ret2
    exact ⟨ret_ub e2.out.symm e1.out.symm, rfl⟩
  · have hb2 : (trim xs).length ≤ 2 := by have := mt hs.1 hbig; omega
    have hv := val_small2 hb2
    have e1 := Lib.hid (fits_yes (n := val xs) (by omega))
    have e2 := Lib.hid (fitv_yes (n := val xs) (by omega))
    have hv2 := Lib.hid hv
    have hz0 : Hid ((trim xs).length ≤ 0 → lm xs 0 = 0) := lm_trim_ge
    have hz1 : Hid ((trim xs).length ≤ 1 → lm xs 1 = 0) := lm_trim_ge
    clear hs hbig hv
    by_cases hk0 : (trim xs).length = 0
    · have f0 := hz0.out (by omega)
      have f1 := hz1.out (by omega)
      have f2 : Hid (((fitv (val xs) : Nat) : Int) = 0) := by show _ = _; rw [e2.out, hv2.out, f0, f1]; rfl
      clear f0 f1
      have hkh := Lib.hid hk0
      clear hk0
      go_enter Tryd.func19, Tryd.ntmps19
      go_wp2_with fail
      refine (rsize_any _ _ _ _ h).mono ?_; rintro e w' ⟨rfl, rfl⟩
      rw [hkh.out]
      go_wp2
      refine wp_loop_rounds 1 ?_
      rw [rounds_succ]
      go_wp2
      go_ret2
      exact ⟨ret_ub f2.out.symm e1.out.symm, rfl⟩
    · obtain ⟨b, o, rfl, hc⟩ := h.at (by omega)
      have c0 := hc 0 (by omega)
      rw [Nat.add_zero] at c0
      by_cases hk1 : (trim xs).length = 1
      · have f1 := hz1.out (by omega)
        have f2 : Hid (((fitv (val xs) : Nat) : Int) = lm xs 0) := by show _ = _; rw [e2.out, hv2.out, f1]; omega
        have hor : bits BinOp.or IntKind.u64 0 ((lm xs 0 : Nat) : Int) = ((lm xs 0 : Nat) : Int) := by
          have := or_join 0 (lm xs 0) (by omega) h0; simpa using this
        have hkh := Lib.hid hk1
        clear hk1 hk0 f1 hc
        go_enter Tryd.func19, Tryd.ntmps19
        go_wp2_with fail
        refine (rsize_any _ _ _ _ h).mono ?_; rintro e w' ⟨rfl, rfl⟩
        rw [hkh.out]
        have hs1 : 1 ≤ xs.length := by have := hkh.out; omega
        go_wp2
        refine wp_loop_rounds 2 ?_
        rw [rounds_succ]
        go_wp2
        rw [rounds_succ]
        go_wp2
        go_ret2
        exact ⟨ret_ub f2.out.symm e1.out.symm, rfl⟩
      · have hk2 : (trim xs).length = 2 := by omega
        have c1 := hc 1 (by omega)
        have f2 : Hid (((fitv (val xs) : Nat) : Int) = ((lm xs 0 + lm xs 1 * 4294967296 : Nat) : Int)) := by show _ = _; rw [e2.out, hv2.out]
        have hor : bits BinOp.or IntKind.u64 0 ((lm xs 1 : Nat) : Int) = ((lm xs 1 : Nat) : Int) := by
          have := or_join 0 (lm xs 1) (by omega) h1; simpa using this
        have hor2 := or_join (lm xs 1) (lm xs 0) h1 h0
        have hkh := Lib.hid hk2
        clear hk1 hk0 hk2 hc
        go_enter Tryd.func19, Tryd.ntmps19
        go_wp2_with fail
        refine (rsize_any _ _ _ _ h).mono ?_; rintro e w' ⟨rfl, rfl⟩
        rw [hkh.out]
        have hs1 : 2 ≤ xs.length := by have := hkh.out; omega
        go_wp2
        refine wp_loop_rounds 3 ?_
        rw [rounds_succ]
        go_wp2
        rw [rounds_succ]
        go_wp2
        rw [rounds_succ]
        go_wp2
        go_ret2
        exact ⟨ret_ub f2.out.symm e1.out.symm, rfl⟩

set_option maxHeartbeats 800000 in
theorem rCompare_any (ao bo : Option Addr) (ca cb : Nat) (xs ys : List Nat) (w : World) (ha : Rd w ao ca xs) (hb : Rd w bo cb ys) :
    Calls Tryd.prog 31 #[.slice ao xs.length ca, .slice bo ys.length cb] w fun e w' => e = .returned (.int .i64 (cmpn (val xs) (val ys))) ∧ Below w.heap.size w w' := by
  have hma := ha.max
  have hla := ha.le
  have hmb := hb.max
  have hlb := hb.le
  have hlx := trim_length_le xs
  have hly := trim_length_le ys
  by_cases h1 : (trim xs).length < (trim ys).length
  · have hv := Lib.hid (cmpn_lt (trim_short ha.lims hb.lims h1))
    have hd : (((trim xs).length : Int) != (trim ys).length) = true := by rw [bne_iff_ne]; omega
    go_enter Tryd.func31, Tryd.ntmps31
    go_wp2_with fail
    refine (rsize_any _ _ _ _ ha).mono ?_; rintro e w' ⟨rfl, rfl⟩
    go_wp2_with fail
    refine (rsize_any _ _ _ _ hb).mono ?_; rintro e w' ⟨rfl, rfl⟩
    go_wp2
    go_ret
    exact ⟨ret_i64 hv.out.symm, Below.refl _ _⟩
  · by_cases h2 : (trim ys).length < (trim xs).length
    · have hv := Lib.hid (cmpn_gt (trim_short hb.lims ha.lims h2))
      have hd : (((trim xs).length : Int) != (trim ys).length) = true := by rw [bne_iff_ne]; omega
      go_enter Tryd.func31, Tryd.ntmps31
      go_wp2_with fail
      refine (rsize_any _ _ _ _ ha).mono ?_; rintro e w' ⟨rfl, rfl⟩
      go_wp2_with fail
      refine (rsize_any _ _ _ _ hb).mono ?_; rintro e w' ⟨rfl, rfl⟩
      go_wp2
      go_ret
      exact ⟨ret_i64 hv.out.symm, Below.refl _ _⟩
    · obtain ⟨n, hn⟩ : ∃ n, n = (trim xs).length := ⟨_, rfl⟩
      have hn2 : (trim ys).length = n := by omega
      have hnx : n ≤ xs.length := by omega
      have hny : n ≤ ys.length := by omega
      have Hn := Lib.hid hn
      have Hn2 := Lib.hid hn2
      clear h1 h2 hn hn2 hlx hly
      go_enter Tryd.func31, Tryd.ntmps31
      go_wp2_with fail
      refine (rsize_any _ _ _ _ ha).mono ?_; rintro e w' ⟨rfl, rfl⟩
      rw [← Hn.out]
      go_wp2_with fail
      refine (rsize_any _ _ _ _ hb).mono ?_; rintro e w' ⟨rfl, rfl⟩
      rw [Hn2.out]
      go_wp2
      go_loopw [7] (fun s wr => ∃ k : Nat, k ≤ n ∧ s = .int .i64 ((k : Int) - 1) ∧ Hid (∀ j, k ≤ j → j < n → lm xs j = lm ys j) ∧ Below w.heap.size w wr) (fun s _ => (intOf s + 1).toNat)
      case atStart => exact ⟨n, Nat.le_refl _, rfl, fun j h1 h2 => by omega, Below.refl _ _⟩
      case round =>
        obtain ⟨k, hk, rfl, he, hbl⟩ := hrel
        by_cases hk0 : 0 < k
        · obtain ⟨b, o, rfl, hc⟩ := (ha.below hbl).at (by omega)
          obtain ⟨b', o', rfl, hc'⟩ := (hb.below hbl).at (by omega)
          have c1 := hc (k - 1) (by omega)
          have c2 := hc' (k - 1) (by omega)
          have hx := ha.lims (k - 1)
          have hy := hb.lims (k - 1)
          clear hc hc'
          go_wp2_with fail
          go_quiet (fail)
          go_wp2_with fail
          · have h1 : lm xs (k - 1) < lm ys (k - 1) := by assumption
            go_ret
            have hv := val_lt_top (lims_trim ha.lims) (k - 1) n (by rw [← Hn.out]; exact Nat.le_refl _) (by rw [Hn2.out]; exact Nat.le_refl _) (by omega) (fun j h2 h3 => by rw [lm_trim, lm_trim]; exact he.out j (by omega) h3) (by rw [lm_trim, lm_trim]; exact h1)
            rw [val_trim, val_trim] at hv
            exact ⟨ret_i64 (cmpn_lt hv).symm, by first | exact below_drewN hbl _ | exact below_drewN (below_drewN hbl _) _⟩
          · go_quiet (fail)
            go_wp2
            · have h1 : lm ys (k - 1) < lm xs (k - 1) := by assumption
              go_ret
              have hv := val_lt_top (lims_trim hb.lims) (k - 1) n (by rw [Hn2.out]; exact Nat.le_refl _) (by rw [← Hn.out]; exact Nat.le_refl _) (by omega) (fun j h2 h3 => by rw [lm_trim, lm_trim]; exact (he.out j (by omega) h3).symm) (by rw [lm_trim, lm_trim]; exact h1)
              rw [val_trim, val_trim] at hv
              exact ⟨ret_i64 (cmpn_gt hv).symm, by first | exact below_drewN hbl _ | exact below_drewN (below_drewN hbl _) _⟩
            · have h1 : ¬ lm xs (k - 1) < lm ys (k - 1) := by assumption
              have h2 : ¬ lm ys (k - 1) < lm xs (k - 1) := by assumption
              go_roundw
              case rel => exact ⟨k - 1, by omega, by go_num, fun j h3 h4 => by
                by_cases e : j = k - 1
                · subst e; omega
                · exact he.out j (by omega) h4, by first | exact below_drewN hbl _ | exact below_drewN (below_drewN hbl _) _⟩
              case measure => simp [intOf]; omega
        · obtain rfl : k = 0 := by omega
          have hv := val_eq_all (xs := trim xs) (ys := trim ys) n (by rw [← Hn.out]; exact Nat.le_refl _) (by rw [Hn2.out]; exact Nat.le_refl _) (fun j h => by rw [lm_trim, lm_trim]; exact he.out j (by omega) h)
          rw [val_trim, val_trim] at hv
          have hv2 := Lib.hid (cmpn_eq hv)
          clear hv
          go_wp2
          go_ret
          exact ⟨ret_i64 hv2.out.symm, hbl⟩
end Go.Proofs.YtepmlobgmklniaaDoor
