/- NaturalReads: the walk. -/
import Derived.Test.YtepmlobgmklniaaDoorAwake
namespace Go.Proofs.YtepmlobgmklniaaDoor
open Go.RowKit

theorem Uint_len (ao : Option Addr) (cap : Nat) (xs : List Nat) (w : World) (h : Rd w ao cap xs) (n : Nat) (hn : n = xs.length) :
    Calls Tryd.prog 18 #[.slice ao n cap] w fun e w' => e = .returned (.tuple #[.int .u64 ((fitv (val xs) : Nat) : Int), .bool (fits (val xs))]) ∧ w = w' := by
  subst hn; exact Uint_any ao cap xs w h
theorem rUint_len (ao : Option Addr) (cap : Nat) (xs : List Nat) (w : World) (h : Rd w ao cap xs) (hb : xs.length ≤ 1099511627776) (n : Nat) (hn : n = xs.length) :
    Calls Tryd.prog 19 #[.slice ao n cap] w fun e w' => e = .returned (.tuple #[.int .u64 ((fitv (val xs) : Nat) : Int), .bool (fits (val xs))]) ∧ w = w' := by
  subst hn; exact rUint_any ao cap xs w h hb
theorem Trim_len (ao : Option Addr) (cap : Nat) (xs : List Nat) (w : World) (h : Rd w ao cap xs) (hb : xs.length ≤ 1099511627776) (n : Nat) (hn : n = xs.length) :
    Calls Tryd.prog 22 #[.slice ao n cap] w fun e w' => ∃ ao' cap', e = .returned (.slice ao' (dig (val xs)).length cap') ∧ Fr w.heap.size w' ao' cap' (dig (val xs)) ∧ Below w.heap.size w w' := by
  subst hn; exact Trim_any ao cap xs w h hb
theorem Bits_len (ao : Option Addr) (cap : Nat) (xs : List Nat) (w : World) (h : Rd w ao cap xs) (hb : xs.length ≤ 1099511627776) (n : Nat) (hn : n = xs.length) :
    Calls Tryd.prog 25 #[.slice ao n cap] w fun e w' => e = .returned (.int .i64 ((bl (val xs) : Nat) : Int)) ∧ w = w' := by
  subst hn; exact Bits_any ao cap xs w h hb
theorem rBits_len (ao : Option Addr) (cap : Nat) (xs : List Nat) (w : World) (h : Rd w ao cap xs) (hb : xs.length ≤ 1099511627776) (n : Nat) (hn : n = xs.length) :
    Calls Tryd.prog 26 #[.slice ao n cap] w fun e w' => e = .returned (.int .i64 ((bl (val xs) : Nat) : Int)) ∧ w = w' := by
  subst hn; exact rBits_any ao cap xs w h hb

set_option maxHeartbeats 4000000 in
set_option maxRecDepth 100000 in
theorem NaturalReads_any (ao : Option Addr) (cap : Nat) (xs : List Nat) (v : Int) (w : World) (h : Rd w ao cap xs) (h0 : 0 ≤ v) (h1 : v ≤ 18446744073709551615) (htab : Tab w) :
    Calls Tryd.prog 3 #[.slice ao xs.length cap, .int .u64 v] w fun e w' => e = .returned (.bool true) ∧ Below w.heap.size w w' := by
  obtain ⟨ys, hy⟩ : ∃ ys, ys = xs.take 200 := ⟨_, rfl⟩
  have hl : Hid (ys.length = min xs.length 200) := by show _ = _; rw [hy, List.length_take, Nat.min_comm]
  have hr : Rd w ao cap ys := by rw [hy]; exact h.take 200
  have hyb : ys.length ≤ 1099511627776 := by have := hl.out; omega
  have hm := h.max
  have hle := h.le
  have hc1 : Hid (((fitv (val (dig v.toNat)) : Nat) : Int) = v) := by
    show _ = _; rw [val_dig, fitv_yes (by omega)]; omega
  have hc2 : Hid (fits (val (dig v.toNat)) = true) := by show _ = _; rw [val_dig]; exact fits_yes (by omega)
  clear hy
  go_enter Tryd.func3, Tryd.ntmps3
  go_wp2_with fail
  all_goals
    refine (Uint_len _ _ _ _ hr _ (by have := hl.out; omega)).mono ?_; rintro e w' ⟨rfl, rfl⟩
    go_wp2_with fail
    refine (rUint_len _ _ _ _ hr hyb _ (by have := hl.out; omega)).mono ?_; rintro e w' ⟨rfl, rfl⟩
    go_wp2_with fail
    refine (FromUint_any v h0 h1 _).mono ?_; rintro e w1 ⟨a1, c1, rfl, f1, b1⟩
    go_wp2_with fail
    refine (Uint_len _ _ _ _ f1.rd _ rfl).mono ?_; rintro e w' ⟨rfl, rfl⟩
    rw [hc1.out, hc2.out]
    have r1 := hr.below b1
    go_wp2_with fail
    refine (Trim_len _ _ _ _ r1 hyb _ (by have := hl.out; omega)).mono ?_; rintro e w2 ⟨a2, c2, rfl, f2, b2⟩
    have B2 := b1.trans (b2.mono b1.size)
    have r2 := hr.below B2
    go_wp2_with fail
    refine (rTrim_len _ _ _ _ r2 hyb _ (by have := hl.out; omega)).mono ?_; rintro e w3 ⟨a3, c3, rfl, f3, b3⟩
    have B3 := B2.trans (b3.mono B2.size)
    go_wp2_with fail
    refine (Same_eq _ _ _ _ _ _ (f2.rd.below b3) f3.rd).mono ?_; rintro e w4 ⟨rfl, b4⟩
    have B4 := B3.trans (b4.mono B3.size)
    go_wp2_with fail
    refine (FromUint_any v h0 h1 _).mono ?_; rintro e w5 ⟨a5, c5, rfl, f5, b5⟩
    have B5 := B4.trans (b5.mono B4.size)
    go_wp2_with fail
    refine (rFromUint_any v h0 h1 _).mono ?_; rintro e w6 ⟨a6, c6, rfl, f6, b6⟩
    have B6 := B5.trans (b6.mono B5.size)
    go_wp2_with fail
    refine (Same_eq _ _ _ _ _ _ (f5.rd.below b6) f6.rd).mono ?_; rintro e w7 ⟨rfl, b7⟩
    have B7 := B6.trans (b7.mono B6.size)
    have r7 := hr.below B7
    go_wp2_with fail
    refine (Bits_len _ _ _ _ r7 hyb _ (by have := hl.out; omega)).mono ?_; rintro e w' ⟨rfl, rfl⟩
    go_wp2_with fail
    refine (rBits_len _ _ _ _ r7 hyb _ (by have := hl.out; omega)).mono ?_; rintro e w' ⟨rfl, rfl⟩
    go_wp2_with fail
    refine (awake_any _ (htab.below B7)).mono ?_; rintro e w8 ⟨rfl, b8⟩
    go_wp2_with fail
    go_ret
    exact ⟨rfl, B7.trans (b8.mono B7.size)⟩
end Go.Proofs.YtepmlobgmklniaaDoor
