import Derived.Test.YtcnghhlchjcdhaaRefA
/- The reference's Uint. -/
namespace Go.Proofs.Ytcnghhlchjcdhaa
open Go.RowKit

set_option maxHeartbeats 800000 in
theorem rUint_any (ao : Option Addr) (cap : Nat) (xs : List Nat) (w : World) (h : Rd w ao cap xs) (hb : xs.length ≤ 1099511627776) :
    Calls Try.prog 60 #[.slice ao xs.length cap] w fun e w' => e = .returned (.tuple #[.int .u64 ((fitv (val xs) : Nat) : Int), .bool (fits (val xs))]) ∧ w = w' := by
  have hs := dig_small h.lims
  have h0 := h.lims 0
  have h1 := h.lims 1
  have hm := h.max
  have hle := h.le
  have hl := trim_length_le xs
  by_cases hbig : 18446744073709551616 ≤ val xs
  · have hb2 : 2 < (trim xs).length := hs.2 hbig
    have e1 := Lib.hid (fits_no (n := val xs) (by omega))
    have e2 := Lib.hid (fitv_no (n := val xs) (by omega))
    clear hs hbig
    go_enter Try.func60, Try.ntmps60
    go_wp2_with fail
    refine (rsize_any _ _ _ _ h).mono ?_; rintro e w' ⟨rfl, rfl⟩
    go_wp2
    refine wp_loop_rounds 1 ?_
    rw [rounds_succ]
    go_wp2
    go_ret2
    exact ⟨ret_ub e2.out.symm e1.out.symm, rfl⟩
  · have hb2 : (trim xs).length ≤ 2 := by have := mt hs.1 hbig; omega
    have hv := val_small2 hb2
    have e1 := Lib.hid (fits_yes (n := val xs) (by omega))
    have e2 := Lib.hid (fitv_yes (n := val xs) (by omega))
    have hv2 := Lib.hid hv
    have hz0 : Hid ((trim xs).length ≤ 0 → lm xs 0 = 0) := lm_trim_ge
    have hz1 : Hid ((trim xs).length ≤ 1 → lm xs 1 = 0) := lm_trim_ge
    clear hs hbig hv
    by_cases hk0 : (trim xs).length = 0
    · have f0 := hz0.out (by omega)
      have f1 := hz1.out (by omega)
      have f2 : Hid (((fitv (val xs) : Nat) : Int) = 0) := by show _ = _; rw [e2.out, hv2.out, f0, f1]; rfl
      clear f0 f1
      have hkh := Lib.hid hk0
      clear hk0
      go_enter Try.func60, Try.ntmps60
      go_wp2_with fail
      refine (rsize_any _ _ _ _ h).mono ?_; rintro e w' ⟨rfl, rfl⟩
      rw [hkh.out]
      go_wp2
      refine wp_loop_rounds 1 ?_
      rw [rounds_succ]
      go_wp2
      go_ret2
      exact ⟨ret_ub f2.out.symm e1.out.symm, rfl⟩
    · obtain ⟨b, o, rfl, hc⟩ := h.at (by omega)
      have c0 := hc 0 (by omega)
      rw [Nat.add_zero] at c0
      by_cases hk1 : (trim xs).length = 1
      · have f1 := hz1.out (by omega)
        have f2 : Hid (((fitv (val xs) : Nat) : Int) = lm xs 0) := by show _ = _; rw [e2.out, hv2.out, f1]; omega
        have hor : bits BinOp.or IntKind.u64 0 ((lm xs 0 : Nat) : Int) = ((lm xs 0 : Nat) : Int) := by
          have := or_join 0 (lm xs 0) (by omega) h0; simpa using this
        have hkh := Lib.hid hk1
        clear hk1 hk0 f1 hc
        go_enter Try.func60, Try.ntmps60
        go_wp2_with fail
        refine (rsize_any _ _ _ _ h).mono ?_; rintro e w' ⟨rfl, rfl⟩
        rw [hkh.out]
        have hs1 : 1 ≤ xs.length := by have := hkh.out; omega
        go_wp2
        refine wp_loop_rounds 2 ?_
        rw [rounds_succ]
        go_wp2
        rw [rounds_succ]
        go_wp2
        go_ret2
        exact ⟨ret_ub f2.out.symm e1.out.symm, rfl⟩
      · have hk2 : (trim xs).length = 2 := by omega
        have c1 := hc 1 (by omega)
        have f2 : Hid (((fitv (val xs) : Nat) : Int) = ((lm xs 0 + lm xs 1 * 4294967296 : Nat) : Int)) := by show _ = _; rw [e2.out, hv2.out]
        have hor : bits BinOp.or IntKind.u64 0 ((lm xs 1 : Nat) : Int) = ((lm xs 1 : Nat) : Int) := by
          have := or_join 0 (lm xs 1) (by omega) h1; simpa using this
        have hor2 := or_join (lm xs 1) (lm xs 0) h1 h0
        have hkh := Lib.hid hk2
        clear hk1 hk0 hk2 hc
        go_enter Try.func60, Try.ntmps60
        go_wp2_with fail
        refine (rsize_any _ _ _ _ h).mono ?_; rintro e w' ⟨rfl, rfl⟩
        rw [hkh.out]
        have hs1 : 2 ≤ xs.length := by have := hkh.out; omega
        go_wp2
        refine wp_loop_rounds 3 ?_
        rw [rounds_succ]
        go_wp2
        rw [rounds_succ]
        go_wp2
        rw [rounds_succ]
        go_wp2
        go_ret2
        exact ⟨ret_ub f2.out.symm e1.out.symm, rfl⟩
end Go.Proofs.Ytcnghhlchjcdhaa
