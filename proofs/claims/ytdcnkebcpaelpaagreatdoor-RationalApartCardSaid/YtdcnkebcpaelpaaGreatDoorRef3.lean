import Derived.Test.YtdcnkebcpaelpaaGreatDoorRef1
import Derived.Test.YtdcnkebcpaelpaaGreatDoorNats2
/- Contracts of the reference's package: sum, difference, product. -/
namespace Go.Proofs.YtdcnkebcpaelpaaGreatDoor
open Go.RowKit

theorem and_of {e : Int} {s d : Nat} (he : e = (s : Int)) (hs : s < 18446744073709551616) (hd : d = s % 4294967296) : bits BinOp.and IntKind.u64 e 4294967295 = (d : Int) := by
  rw [he, and_mask s hs, hd]

set_option maxHeartbeats 2000000 in
set_option maxRecDepth 100000 in
theorem rAdd_any (ao bo : Option Addr) (ca cb : Nat) (xs ys : List Nat) (w : World) (ha : Rd w ao ca xs) (hb : Rd w bo cb ys) (hx : xs.length ≤ 549755813888) (hy : ys.length ≤ 549755813888) :
    Calls Tryz.prog 33 #[.slice ao xs.length ca, .slice bo ys.length cb] w fun e w' => ∃ ao' cap', e = .returned (.slice ao' (dig (val xs + val ys)).length cap') ∧ Fr w.heap.size w' ao' cap' (dig (val xs + val ys)) ∧ Below w.heap.size w w' := by
  have hma := ha.max
  have hla := ha.le
  have hmb := hb.max
  have hlb := hb.le
  obtain ⟨m, hm1, hm2, hm3⟩ : ∃ m, xs.length ≤ m ∧ ys.length ≤ m ∧ m = max xs.length ys.length := ⟨_, by omega, by omega, rfl⟩
  have hm5 : m ≤ xs.length ∨ m ≤ ys.length := by omega
  clear hm3
  obtain ⟨i0, hi, hz0, hz1, hz2⟩ := info_parts infoU32
  go_enter Tryz.func33, Tryz.ntmps33
  go_wp2_with (at_make; refine wpList_make_full _ rfl _ _ 23 rfl w.heap.size 35 i0 (.int .u32 0) 1 Tryz.underlying23 hi hz0 hz1 _ _ _ _ (m + 1) rfl rfl (by omega) (by omega) (by rw [hz2]; omega) (by unfold maxLen; omega) (Nat.le_refl _) ?_; intro w1 hown hgr)
  all_goals
    have hown0 := Own.made hown
    clear hown hi hz0 hz1 hz2
    have hbel : Below w.heap.size w w1 := (Below.refl _ _).grown hgr (Nat.le_refl _) (fun k hk => by cases hk)
    go_loopw [6, 17] (fun s6 s17 wr => ∃ (i c : Nat) (cs : List Nat), i ≤ m + 1 ∧ s6 = .int .u64 c ∧ s17 = .int .i64 i ∧ c ≤ 1 ∧ Hid (cs.length = m + 1) ∧ Lims cs ∧ Own wr w.heap.size cs ∧ Below w.heap.size w wr ∧
        Hid (vl cs i + c * pw i = vl xs i + vl ys i)) (fun _ s17 _ => m + 1 - (intOf s17).toNat)
    case atStart => exact ⟨0, 0, _, by omega, rfl, rfl, by omega, List.length_replicate .., lims_replicate _, hown0, hbel, by simp [vl, Hid]⟩
    case round =>
      obtain ⟨i, c, cs, hi, rfl, rfl, hc, hlen, hlc, hown, hbl, hv⟩ := hrel
      have har := ha.below hbl
      have hbr := hb.below hbl
      by_cases hlt : i < m + 1
      · have hx1 := ha.lims i
        have hy1 := hb.lims i
        have hcell := hown.cell (j := i) (by rw [hlen.out]; exact hlt)
        have hfro := hown.frozen i
        obtain ⟨x, hxd⟩ : ∃ x, x = lm xs i := ⟨_, rfl⟩
        obtain ⟨y, hyd⟩ : ∃ y, y = lm ys i := ⟨_, rfl⟩
        obtain ⟨s, hs⟩ : ∃ s, s = c + x + y := ⟨_, rfl⟩
        obtain ⟨d, hd⟩ : ∃ d, d = s % 4294967296 := ⟨_, rfl⟩
        rw [← hxd] at hx1
        rw [← hyd] at hy1
        have hsb : s < 18446744073709551616 := by omega
        have hdb : d < 4294967296 := by omega
        have hstep : x + y + c = d + 4294967296 * (s / 4294967296) := by omega
        have HX := Lib.hid hxd
        have HY := Lib.hid hyd
        have HS := Lib.hid hs
        have HD := Lib.hid hd
        have hcell2 : i < xs.length → ∃ b o, ao = some ⟨b, o, none⟩ ∧ wr.cell? ⟨b, o + i, none⟩ = some (.int .u32 ((x : Nat) : Int)) := fun h => by
          obtain ⟨b, o, e, hcc⟩ := har.at (by omega)
          exact ⟨b, o, e, by rw [hcc i h, HX.out]⟩
        have hcell3 : i < ys.length → ∃ b o, bo = some ⟨b, o, none⟩ ∧ wr.cell? ⟨b, o + i, none⟩ = some (.int .u32 ((y : Nat) : Int)) := fun h => by
          obtain ⟨b, o, e, hcc⟩ := hbr.at (by omega)
          exact ⟨b, o, e, by rw [hcc i h, HY.out]⟩
        have hx0 : ¬ i < xs.length → x = 0 := fun h => by rw [HX.out]; exact lm_ge _ _ (by omega)
        have hy0 : ¬ i < ys.length → y = 0 := fun h => by rw [HY.out]; exact lm_ge _ _ (by omega)
        clear hxd hyd hs hd
        have fin : ∀ (v6 : Int), v6 = ((s / 4294967296 : Nat) : Int) → (∃ (i' c' : Nat) (cs' : List Nat), i' ≤ m + 1 ∧ Value.int .u64 v6 = .int .u64 c' ∧ Value.int .i64 ((i : Int) + 1) = .int .i64 i' ∧ c' ≤ 1 ∧ Hid (cs'.length = m + 1) ∧ Lims cs' ∧ Own (wr.setCell ⟨w.heap.size, i, none⟩ (.int .u32 ((d : Nat) : Int))) w.heap.size cs' ∧ Below w.heap.size w (wr.setCell ⟨w.heap.size, i, none⟩ (.int .u32 ((d : Nat) : Int))) ∧
            Hid (vl cs' i' + c' * pw i' = vl xs i' + vl ys i')) := fun v6 hv6 => ⟨i + 1, s / 4294967296, cs.set i d, by omega, by rw [hv6], by go_num, by have := HS.out; omega, (List.length_set ..).trans hlen.out, lims_set hlc i _ hdb, hown.setCell (j := i) (by rw [hlen.out]; exact hlt) d, hbl.setCell (Nat.le_refl _) _, by
              show _ = _
              rw [vl, vl, vl, vl_set_ge _ _ _ _ (Nat.le_refl _), lm_set _ _ _ _ (by rw [hlen.out]; exact hlt), if_pos rfl, pw_succ, ← HX.out, ← HY.out]
              exact sum_step _ _ _ _ _ _ _ _ _ hv.out hstep⟩
        have FIN := Lib.hid fin
        clear fin
        by_cases h1 : i < xs.length <;> by_cases h2 : i < ys.length
        · obtain ⟨b1, o1, rfl, k1⟩ := hcell2 h1
          obtain ⟨b2, o2, rfl, k2⟩ := hcell3 h2
          have hand : bits BinOp.and IntKind.u64 ((c : Int) + (x : Int) + (y : Int)) 4294967295 = (d : Int) := and_of (s := s) (by have := HS.out; omega) hsb HD.out
          clear hcell2 hcell3 hx0 hy0
          go_wp2_with fail
          all_goals
            go_roundw
            case rel => exact FIN.out _ (by have := HS.out; omega)
            case measure => simp [intOf]; omega
        · obtain ⟨b1, o1, rfl, k1⟩ := hcell2 h1
          have y0 := Lib.hid (hy0 h2)
          have hand : bits BinOp.and IntKind.u64 ((c : Int) + (x : Int)) 4294967295 = (d : Int) := and_of (s := s) (by have := HS.out; have := y0.out; omega) hsb HD.out
          clear hcell2 hcell3 hx0 hy0
          go_wp2_with fail
          all_goals
            go_roundw
            case rel => exact FIN.out _ (by have := HS.out; have := y0.out; omega)
            case measure => simp [intOf]; omega
        · obtain ⟨b2, o2, rfl, k2⟩ := hcell3 h2
          have x0 := Lib.hid (hx0 h1)
          have hand : bits BinOp.and IntKind.u64 ((c : Int) + (y : Int)) 4294967295 = (d : Int) := and_of (s := s) (by have := HS.out; have := x0.out; omega) hsb HD.out
          clear hcell2 hcell3 hx0 hy0
          go_wp2_with fail
          all_goals
            go_roundw
            case rel => exact FIN.out _ (by have := HS.out; have := x0.out; omega)
            case measure => simp [intOf]; omega
        · have x0 := Lib.hid (hx0 h1)
          have y0 := Lib.hid (hy0 h2)
          have hand : bits BinOp.and IntKind.u64 (c : Int) 4294967295 = (d : Int) := and_of (s := s) (by have := HS.out; have := x0.out; have := y0.out; omega) hsb HD.out
          clear hcell2 hcell3 hx0 hy0
          go_wp2_with fail
          all_goals
            go_roundw
            case rel => exact FIN.out _ (by have := HS.out; have := x0.out; have := y0.out; omega)
            case measure => simp [intOf]; omega
      · obtain rfl : i = m + 1 := by omega
        have ht := add_end ha.lims hb.lims hlc hm1 hm2 hlen.out hv.out
        have hval : Hid (val cs = val xs + val ys) := by
          have h1 := congrArg val ht
          rwa [val_trim, val_dig] at h1
        have hfr := (Fr.of_own (B := w.heap.size) hown hlc (Nat.le_refl _) (m + 1) (by rw [hlen.out]; exact Nat.le_refl _) (by omega))
        have hln := Lib.hid hlen.out.symm
        have hlb2 : cs.length ≤ 1099511627776 := by rw [hlen.out]; omega
        clear har hbr hgr hown0 hbel hlen hv ht
        go_wp2_with fail
        refine (rTrim_len _ _ _ _ hfr.rd hlb2 _ hln.out).mono ?_; rintro e w2 ⟨ao', cap', rfl, hf2, hb2⟩
        go_wp2_with fail
        go_ret
        rw [hval.out] at hf2 ⊢
        exact ⟨_, _, rfl, hf2.mono hbl.size, hbl.trans (hb2.mono hbl.size)⟩
end Go.Proofs.YtdcnkebcpaelpaaGreatDoor
