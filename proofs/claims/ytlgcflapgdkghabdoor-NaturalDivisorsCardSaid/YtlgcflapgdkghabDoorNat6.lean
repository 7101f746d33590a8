/- Contract of natural.Mul. -/
import Derived.Test.YtlgcflapgdkghabDoorNat5
import Derived.Deep.RegionWith
namespace Go.Proofs.YtlgcflapgdkghabDoor
open Go.RowKit

theorem mul_round {cs ds xs : List Nat} {i ly Y : Nat} (h1 : vl cs (i + ly) = vl xs i * Y) (h2 : lm cs (i + ly) = 0) (h3 : vs ds i (ly + 1) = vs cs i (ly + 1) + lm xs i * Y) (h4 : vl ds i = vl cs i) : vl ds (i + 1 + ly) = vl xs (i + 1) * Y := by
  have e1 := vl_split_vs ds i (ly + 1)
  have e2 := vl_split_vs cs i (ly + 1)
  have e3 : vl cs (i + (ly + 1)) = vl cs (i + ly) + lm cs (i + ly) * pw (i + ly) := rfl
  rw [h2, Nat.zero_mul, Nat.add_zero, h1] at e3
  rw [show i + 1 + ly = i + (ly + 1) by omega, e1, h3, h4, vl]
  rw [e3] at e2
  have e4 : vl xs i * Y + pw i * (lm xs i * Y) = (vl xs i + lm xs i * pw i) * Y := by grind
  rw [Nat.add_zero] at e2
  rw [← e4, e2]; grind

set_option maxHeartbeats 2000000 in
set_option maxRecDepth 100000 in
theorem Mul_any (ao bo : Option Addr) (ca cb : Nat) (xs ys : List Nat) (w : World) (ha : Rd w ao ca xs) (hb : Rd w bo cb ys) (hx : xs.length ≤ 549755813888) (hy : ys.length ≤ 549755813888) :
    Calls Tryd.prog 15 #[.slice ao xs.length ca, .slice bo ys.length cb] w fun e w' => ∃ ao' cap', e = .returned (.slice ao' (dig (val xs * val ys)).length cap') ∧ Fr w.heap.size w' ao' cap' (dig (val xs * val ys)) ∧ Below w.heap.size w w' := by
  have hma := ha.max
  have hmb := hb.max
  have hla := ha.le
  have hlb := hb.le
  have hlx := trim_length_le xs
  have hly := trim_length_le ys
  obtain ⟨us, hu⟩ : ∃ us, us = trim xs := ⟨_, rfl⟩
  obtain ⟨zs, hz⟩ : ∃ zs, zs = trim ys := ⟨_, rfl⟩
  have hau : Rd w ao ca us := by rw [hu]; exact ha.trim
  have hbz : Rd w bo cb zs := by rw [hz]; exact hb.trim
  have hvu : Hid (val us = val xs) := by show _ = _; rw [hu, val_trim]
  have hvz : Hid (val zs = val ys) := by show _ = _; rw [hz, val_trim]
  rw [← hu] at hlx
  rw [← hz] at hly
  have U := Lib.hid hu
  have Z := Lib.hid hz
  clear hu hz
  obtain ⟨i0, hi, hz0, hz1, hz2⟩ := info_parts infoU32
  go_enter Tryd.func15, Tryd.ntmps15
  go_wp2_with fail
  refine (significant_any _ _ _ _ ha).mono ?_; rintro e w' ⟨rfl, rfl⟩
  rw [← U.out]
  go_wp2_with fail
  refine (significant_any _ _ _ _ hb).mono ?_; rintro e w' ⟨rfl, rfl⟩
  rw [← Z.out]
  go_wp2_with (at_make; refine wpList_make_full _ rfl _ _ 23 rfl w.heap.size 31 i0 (.int .u32 0) 1 Tryd.underlying23 hi hz0 hz1 _ _ _ _ (us.length + zs.length) rfl rfl (by omega) (by omega) (by rw [hz2]; omega) (by unfold maxLen; omega) (Nat.le_refl _) ?_; intro w1 hown hgr)
  have hown0 := Own.made hown
  clear hown hi hz0 hz1 hz2
  have hbel : Below w.heap.size w w1 := (Below.refl _ _).grown hgr (Nat.le_refl _) (fun k hk => by cases hk)
  go_loopw [21] (fun s21 wr => ∃ (i : Nat) (cs : List Nat), i ≤ us.length ∧ s21 = .int .i64 i ∧ Hid (cs.length = us.length + zs.length) ∧ Lims cs ∧ Own wr w.heap.size cs ∧ Below w.heap.size w wr ∧ Hid (∀ j, i + zs.length ≤ j → lm cs j = 0) ∧
      Hid (vl cs (i + zs.length) = vl us i * val ys)) (fun s21 _ => us.length - (intOf s21).toNat)
  case atStart => exact ⟨0, _, by omega, rfl, List.length_replicate .., lims_replicate _, hown0, hbel, fun j _ => lm_replicate _ _, by show _ = _; rw [vl_replicate, vl, Nat.zero_mul]⟩
  case round =>
    obtain ⟨i, cs, hi, rfl, hlen, hlc, hown, hbl, hzero, hv⟩ := hrel
    have har := hau.below hbl
    have hbr := hbz.below hbl
    by_cases hlt : i < us.length
    · obtain ⟨b2, o2, rfl, hcn⟩ := har.at (by omega)
      have hcn1 := hcn i hlt
      have hxb := hau.lims i
      clear hcn
      go_wp2_with fail
      have hctr : Calls Tryd.prog 31 #[.slice (some ⟨w.heap.size, i, none⟩) (us.length + zs.length - i) (us.length + zs.length - i), .slice bo zs.length cb, .int .u32 ((lm us i : Nat) : Int)] wr.drew fun e w' => ∃ (cs' : List Nat), e = .returned (.tuple #[]) ∧ cs'.length = cs.length ∧ Lims cs' ∧
          (∀ j, j < i ∨ i + zs.length < j → lm cs' j = lm cs j) ∧ vs cs' i (zs.length + 1) = vs cs i (zs.length + 1) + lm us i * val zs ∧ Own w' w.heap.size cs' ∧ wr.drew.grownBy w' (some w.heap.size) ∧ w'.heap.size = wr.drew.heap.size :=
        addMultiple_own w.heap.size i _ _ (lm us i) cs bo cb zs wr.drew hown.drew hlc (by rw [hlen.out]; omega) (by omega) hbr.drew (fun h0 b' o' e => by
          subst e
          have := Rd.lt hbz (by omega)
          omega) (by omega) hxb (hzero.out _ (Nat.le_refl _))
      have C := Lib.hid hctr
      clear hctr
      go_region_with (go_at_call 31; refine C.out.mono ?_; rintro e w2 ⟨ds, rfl, k1, k2, k3, k4, k5, k6, k7⟩)
      all_goals
        go_wp2_with fail
        have hbl2 : Below w.heap.size w w2 := hbl.drew.grown k6 (by simpa using hbl.size) (fun k hk => by cases hk; exact Nat.le_refl _)
        have hk4 := k4
        rw [hvz.out] at hk4
        go_roundw
        case rel => exact ⟨i + 1, ds, by omega, by go_num, k1.trans hlen.out, k2, k5, hbl2, fun j hj => by rw [k3 j (by omega)]; exact hzero.out j (by omega), by
          show _ = _
          exact mul_round hv.out (hzero.out _ (Nat.le_refl _)) hk4 (vl_congr _ _ _ (fun j hj => k3 j (by omega)))⟩
        case measure => simp [intOf]; omega
    · obtain rfl : i = us.length := by omega
      have hval : val cs = val xs * val ys := by
        have h1 := hv.out
        rw [← hlen.out, vl_all, vl_all, hvu.out] at h1
        exact h1
      have ht := trim_dig hlc
      rw [hval] at ht
      have T := Lib.hid ht
      have hfr := Fr.of_own hown hlc (Nat.le_refl _) (us.length + zs.length) (by rw [hlen.out]; exact Nat.le_refl _) (by omega)
      have hln := Lib.hid hlen.out.symm
      clear har hbr hgr hown0 hbel hlen hv ht hval
      go_wp2_with fail
      refine (significant_len _ _ _ _ hfr.rd _ hln.out).mono ?_; rintro e w' ⟨rfl, rfl⟩
      go_wp2_with fail
      go_ret
      have hfr2 := hfr.trim
      rw [T.out] at hfr2
      exact ⟨_, _, ret_len (congrArg List.length T.out), hfr2, hbl⟩
end Go.Proofs.YtlgcflapgdkghabDoor
