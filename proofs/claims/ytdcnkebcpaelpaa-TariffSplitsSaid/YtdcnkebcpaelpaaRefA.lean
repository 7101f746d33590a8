import Derived.Test.YtdcnkebcpaelpaaDivA
import Derived.Test.YtdcnkebcpaelpaaNats2
/- The reference's Uint and Compare. -/
namespace Go.Proofs.Ytdcnkebcpaelpaa
open Go.RowKit

theorem val_small2 {xs : List Nat} (h : (trim xs).length ≤ 2) : val xs = lm xs 0 + lm xs 1 * 4294967296 := by
  rw [← vl_two, ← vl_trim2 xs, ← val_trim xs]
  exact (vl_ge _ _ h).symm
theorem lm_trim_ge {xs : List Nat} {i : Nat} (h : (trim xs).length ≤ i) : lm xs i = 0 := by rw [← lm_trim]; exact lm_ge _ _ h

set_option maxHeartbeats 800000 in
theorem rCompare_any (ao bo : Option Addr) (ca cb : Nat) (xs ys : List Nat) (w : World) (ha : Rd w ao ca xs) (hb : Rd w bo cb ys) :
    Calls Try.prog 65 #[.slice ao xs.length ca, .slice bo ys.length cb] w fun e w' => e = .returned (.int .i64 (cmpn (val xs) (val ys))) ∧ Below w.heap.size w w' := by
  have hma := ha.max
  have hla := ha.le
  have hmb := hb.max
  have hlb := hb.le
  have hlx := trim_length_le xs
  have hly := trim_length_le ys
  by_cases h1 : (trim xs).length < (trim ys).length
  · have hv := Lib.hid (cmpn_lt (trim_short ha.lims hb.lims h1))
    have hd : (((trim xs).length : Int) != (trim ys).length) = true := by rw [bne_iff_ne]; omega
    go_enter Try.func65, Try.ntmps65
    go_wp2_with fail
    refine (rsize_any _ _ _ _ ha).mono ?_; rintro e w' ⟨rfl, rfl⟩
    go_wp2_with fail
    refine (rsize_any _ _ _ _ hb).mono ?_; rintro e w' ⟨rfl, rfl⟩
    go_wp2
    go_ret
    exact ⟨ret_i64 hv.out.symm, Below.refl _ _⟩
  · by_cases h2 : (trim ys).length < (trim xs).length
    · have hv := Lib.hid (cmpn_gt (trim_short hb.lims ha.lims h2))
      have hd : (((trim xs).length : Int) != (trim ys).length) = true := by rw [bne_iff_ne]; omega
      go_enter Try.func65, Try.ntmps65
      go_wp2_with fail
      refine (rsize_any _ _ _ _ ha).mono ?_; rintro e w' ⟨rfl, rfl⟩
      go_wp2_with fail
      refine (rsize_any _ _ _ _ hb).mono ?_; rintro e w' ⟨rfl, rfl⟩
      go_wp2
      go_ret
      exact ⟨ret_i64 hv.out.symm, Below.refl _ _⟩
    · obtain ⟨n, hn⟩ : ∃ n, n = (trim xs).length := ⟨_, rfl⟩
      have hn2 : (trim ys).length = n := by omega
      have hnx : n ≤ xs.length := by omega
      have hny : n ≤ ys.length := by omega
      have Hn := Lib.hid hn
      have Hn2 := Lib.hid hn2
      clear h1 h2 hn hn2 hlx hly
      go_enter Try.func65, Try.ntmps65
      go_wp2_with fail
      refine (rsize_any _ _ _ _ ha).mono ?_; rintro e w' ⟨rfl, rfl⟩
      rw [← Hn.out]
      go_wp2_with fail
      refine (rsize_any _ _ _ _ hb).mono ?_; rintro e w' ⟨rfl, rfl⟩
      rw [Hn2.out]
      go_wp2
      go_loopw [7] (fun s wr => ∃ k : Nat, k ≤ n ∧ s = .int .i64 ((k : Int) - 1) ∧ Hid (∀ j, k ≤ j → j < n → lm xs j = lm ys j) ∧ Below w.heap.size w wr) (fun s _ => (intOf s + 1).toNat)
      case atStart => exact ⟨n, Nat.le_refl _, rfl, fun j h1 h2 => by omega, Below.refl _ _⟩
      case round =>
        obtain ⟨k, hk, rfl, he, hbl⟩ := hrel
        by_cases hk0 : 0 < k
        · obtain ⟨b, o, rfl, hc⟩ := (ha.below hbl).at (by omega)
          obtain ⟨b', o', rfl, hc'⟩ := (hb.below hbl).at (by omega)
          have c1 := hc (k - 1) (by omega)
          have c2 := hc' (k - 1) (by omega)
          have hx := ha.lims (k - 1)
          have hy := hb.lims (k - 1)
          clear hc hc'
          go_wp2_with fail
          go_quiet (fail)
          go_wp2_with fail
          · have h1 : lm xs (k - 1) < lm ys (k - 1) := by assumption
            go_ret
            have hv := val_lt_top (lims_trim ha.lims) (k - 1) n (by rw [← Hn.out]; exact Nat.le_refl _) (by rw [Hn2.out]; exact Nat.le_refl _) (by omega) (fun j h2 h3 => by rw [lm_trim, lm_trim]; exact he.out j (by omega) h3) (by rw [lm_trim, lm_trim]; exact h1)
            rw [val_trim, val_trim] at hv
            exact ⟨ret_i64 (cmpn_lt hv).symm, by first | exact below_drewN hbl _ | exact below_drewN (below_drewN hbl _) _⟩
          · go_quiet (fail)
            go_wp2
            · have h1 : lm ys (k - 1) < lm xs (k - 1) := by assumption
              go_ret
              have hv := val_lt_top (lims_trim hb.lims) (k - 1) n (by rw [Hn2.out]; exact Nat.le_refl _) (by rw [← Hn.out]; exact Nat.le_refl _) (by omega) (fun j h2 h3 => by rw [lm_trim, lm_trim]; exact (he.out j (by omega) h3).symm) (by rw [lm_trim, lm_trim]; exact h1)
              rw [val_trim, val_trim] at hv
              exact ⟨ret_i64 (cmpn_gt hv).symm, by first | exact below_drewN hbl _ | exact below_drewN (below_drewN hbl _) _⟩
            · have h1 : ¬ lm xs (k - 1) < lm ys (k - 1) := by assumption
              have h2 : ¬ lm ys (k - 1) < lm xs (k - 1) := by assumption
              go_roundw
              case rel => exact ⟨k - 1, by omega, by go_num, fun j h3 h4 => by
                by_cases e : j = k - 1
                · subst e; omega
                · exact he.out j (by omega) h4, by first | exact below_drewN hbl _ | exact below_drewN (below_drewN hbl _) _⟩
              case measure => simp [intOf]; omega
        · obtain rfl : k = 0 := by omega
          have hv := val_eq_all (xs := trim xs) (ys := trim ys) n (by rw [← Hn.out]; exact Nat.le_refl _) (by rw [Hn2.out]; exact Nat.le_refl _) (fun j h => by rw [lm_trim, lm_trim]; exact he.out j (by omega) h)
          rw [val_trim, val_trim] at hv
          have hv2 := Lib.hid (cmpn_eq hv)
          clear hv
          go_wp2
          go_ret
          exact ⟨ret_i64 hv2.out.symm, hbl⟩
end Go.Proofs.Ytdcnkebcpaelpaa
/- Contracts of the reference's package: sum, difference, product. -/
namespace Go.Proofs.Ytdcnkebcpaelpaa
open Go.RowKit

theorem and_of {e : Int} {s d : Nat} (he : e = (s : Int)) (hs : s < 18446744073709551616) (hd : d = s % 4294967296) : bits BinOp.and IntKind.u64 e 4294967295 = (d : Int) := by
  rw [he, and_mask s hs, hd]

set_option maxHeartbeats 2000000 in
set_option maxRecDepth 100000 in
theorem rAdd_any (ao bo : Option Addr) (ca cb : Nat) (xs ys : List Nat) (w : World) (ha : Rd w ao ca xs) (hb : Rd w bo cb ys) (hx : xs.length ≤ 549755813888) (hy : ys.length ≤ 549755813888) :
    Calls Try.prog 48 #[.slice ao xs.length ca, .slice bo ys.length cb] w fun e w' => ∃ ao' cap', e = .returned (.slice ao' (dig (val xs + val ys)).length cap') ∧ Fr w.heap.size w' ao' cap' (dig (val xs + val ys)) ∧ Below w.heap.size w w' := by
  have hma := ha.max
  have hla := ha.le
  have hmb := hb.max
  have hlb := hb.le
  obtain ⟨m, hm1, hm2, hm3⟩ : ∃ m, xs.length ≤ m ∧ ys.length ≤ m ∧ m = max xs.length ys.length := ⟨_, by omega, by omega, rfl⟩
  have hm5 : m ≤ xs.length ∨ m ≤ ys.length := by omega
  clear hm3
  obtain ⟨i0, hi, hz0, hz1, hz2⟩ := info_parts infoU32
  go_enter Try.func48, Try.ntmps48
  go_wp2_with (at_make; refine wpList_make_full _ rfl _ _ 38 rfl w.heap.size 84 i0 (.int .u32 0) 1 Try.underlying38 hi hz0 hz1 _ _ _ _ (m + 1) rfl rfl (by omega) (by omega) (by rw [hz2]; omega) (by unfold maxLen; omega) (Nat.le_refl _) ?_; intro w1 hown hgr)
  all_goals
    have hown0 := Own.made hown
    clear hown hi hz0 hz1 hz2
    have hbel : Below w.heap.size w w1 := (Below.refl _ _).grown hgr (Nat.le_refl _) (fun k hk => by cases hk)
    go_loopw [6, 17] (fun s6 s17 wr => ∃ (i c : Nat) (cs : List Nat), i ≤ m + 1 ∧ s6 = .int .u64 c ∧ s17 = .int .i64 i ∧ c ≤ 1 ∧ Hid (cs.length = m + 1) ∧ Lims cs ∧ Own wr w.heap.size cs ∧ Below w.heap.size w wr ∧
        Hid (vl cs i + c * pw i = vl xs i + vl ys i)) (fun _ s17 _ => m + 1 - (intOf s17).toNat)
    case atStart => exact ⟨0, 0, _, by omega, rfl, rfl, by omega, List.length_replicate .., lims_replicate _, hown0, hbel, by simp [vl, Hid]⟩
    case round =>
      obtain ⟨i, c, cs, hi, rfl, rfl, hc, hlen, hlc, hown, hbl, hv⟩ := hrel
      have har := ha.below hbl
      have hbr := hb.below hbl
      by_cases hlt : i < m + 1
      · have hx1 := ha.lims i
        have hy1 := hb.lims i
        have hcell := hown.cell (j := i) (by rw [hlen.out]; exact hlt)
        have hfro := hown.frozen i
        obtain ⟨x, hxd⟩ : ∃ x, x = lm xs i := ⟨_, rfl⟩
        obtain ⟨y, hyd⟩ : ∃ y, y = lm ys i := ⟨_, rfl⟩
        obtain ⟨s, hs⟩ : ∃ s, s = c + x + y := ⟨_, rfl⟩
        obtain ⟨d, hd⟩ : ∃ d, d = s % 4294967296 := ⟨_, rfl⟩
        rw [← hxd] at hx1
        rw [← hyd] at hy1
        have hsb : s < 18446744073709551616 := by omega
        have hdb : d < 4294967296 := by omega
        have hstep : x + y + c = d + 4294967296 * (s / 4294967296) := by omega
        have HX := Lib.hid hxd
        have HY := Lib.hid hyd
        have HS := Lib.hid hs
        have HD := Lib.hid hd
        have hcell2 : i < xs.length → ∃ b o, ao = some ⟨b, o, none⟩ ∧ wr.cell? ⟨b, o + i, none⟩ = some (.int .u32 ((x : Nat) : Int)) := fun h => by
          obtain ⟨b, o, e, hcc⟩ := har.at (by omega)
          exact ⟨b, o, e, by rw [hcc i h, HX.out]⟩
        have hcell3 : i < ys.length → ∃ b o, bo = some ⟨b, o, none⟩ ∧ wr.cell? ⟨b, o + i, none⟩ = some (.int .u32 ((y : Nat) : Int)) := fun h => by
          obtain ⟨b, o, e, hcc⟩ := hbr.at (by omega)
          exact ⟨b, o, e, by rw [hcc i h, HY.out]⟩
        have hx0 : ¬ i < xs.length → x = 0 := fun h => by rw [HX.out]; exact lm_ge _ _ (by omega)
        have hy0 : ¬ i < ys.length → y = 0 := fun h => by rw [HY.out]; exact lm_ge _ _ (by omega)
        clear hxd hyd hs hd
        have fin : ∀ (v6 : Int), v6 = ((s / 4294967296 : Nat) : Int) → (∃ (i' c' : Nat) (cs' : List Nat), i' ≤ m + 1 ∧ Value.int .u64 v6 = .int .u64 c' ∧ Value.int .i64 ((i : Int) + 1) = .int .i64 i' ∧ c' ≤ 1 ∧ Hid (cs'.length = m + 1) ∧ Lims cs' ∧ Own (wr.setCell ⟨w.heap.size, i, none⟩ (.int .u32 ((d : Nat) : Int))) w.heap.size cs' ∧ Below w.heap.size w (wr.setCell ⟨w.heap.size, i, none⟩ (.int .u32 ((d : Nat) : Int))) ∧
            Hid (vl cs' i' + c' * pw i' = vl xs i' + vl ys i')) := fun v6 hv6 => ⟨i + 1, s / 4294967296, cs.set i d, by omega, by rw [hv6], by go_num, by have := HS.out; omega, (List.length_set ..).trans hlen.out, lims_set hlc i _ hdb, hown.setCell (j := i) (by rw [hlen.out]; exact hlt) d, hbl.setCell (Nat.le_refl _) _, by
              show _ = _
              rw [vl, vl, vl, vl_set_ge _ _ _ _ (Nat.le_refl _), lm_set _ _ _ _ (by rw [hlen.out]; exact hlt), if_pos rfl, pw_succ, ← HX.out, ← HY.out]
              exact sum_step _ _ _ _ _ _ _ _ _ hv.out hstep⟩
        have FIN := Lib.hid fin
        clear fin
        by_cases h1 : i < xs.length <;> by_cases h2 : i < ys.length
        · obtain ⟨b1, o1, rfl, k1⟩ := hcell2 h1
          obtain ⟨b2, o2, rfl, k2⟩ := hcell3 h2
          have hand : bits BinOp.and IntKind.u64 ((c : Int) + (x : Int) + (y : Int)) 4294967295 = (d : Int) := and_of (s := s) (by have := HS.out; omega) hsb HD.out
          clear hcell2 hcell3 hx0 hy0
          go_wp2_with fail
          all_goals
            go_roundw
            case rel => exact FIN.out _ (by have := HS.out; omega)
            case measure => simp [intOf]; omega
        · obtain ⟨b1, o1, rfl, k1⟩ := hcell2 h1
          have y0 := Lib.hid (hy0 h2)
          have hand : bits BinOp.and IntKind.u64 ((c : Int) + (x : Int)) 4294967295 = (d : Int) := and_of (s := s) (by have := HS.out; have := y0.out; omega) hsb HD.out
          clear hcell2 hcell3 hx0 hy0
          go_wp2_with fail
          all_goals
            go_roundw
            case rel => exact FIN.out _ (by have := HS.out; have := y0.out; omega)
            case measure => simp [intOf]; omega
        · obtain ⟨b2, o2, rfl, k2⟩ := hcell3 h2
          have x0 := Lib.hid (hx0 h1)
          have hand : bits BinOp.and IntKind.u64 ((c : Int) + (y : Int)) 4294967295 = (d : Int) := and_of (s := s) (by have := HS.out; have := x0.out; omega) hsb HD.out
          clear hcell2 hcell3 hx0 hy0
          go_wp2_with fail
          all_goals
            go_roundw
            case rel => exact FIN.out _ (by have := HS.out; have := x0.out; omega)
            case measure => simp [intOf]; omega
        · have x0 := Lib.hid (hx0 h1)
          have y0 := Lib.hid (hy0 h2)
          have hand : bits BinOp.and IntKind.u64 (c : Int) 4294967295 = (d : Int) := and_of (s := s) (by have := HS.out; have := x0.out; have := y0.out; omega) hsb HD.out
          clear hcell2 hcell3 hx0 hy0
          go_wp2_with fail
          all_goals
            go_roundw
            case rel => exact FIN.out _ (by have := HS.out; have := x0.out; have := y0.out; omega)
            case measure => simp [intOf]; omega
      · obtain rfl : i = m + 1 := by omega
        have ht := add_end ha.lims hb.lims hlc hm1 hm2 hlen.out hv.out
        have hval : Hid (val cs = val xs + val ys) := by
          have h1 := congrArg val ht
          rwa [val_trim, val_dig] at h1
        have hfr := (Fr.of_own (B := w.heap.size) hown hlc (Nat.le_refl _) (m + 1) (by rw [hlen.out]; exact Nat.le_refl _) (by omega))
        have hln := Lib.hid hlen.out.symm
        have hlb2 : cs.length ≤ 1099511627776 := by rw [hlen.out]; omega
        clear har hbr hgr hown0 hbel hlen hv ht
        go_wp2_with fail
        refine (rTrim_len _ _ _ _ hfr.rd hlb2 _ hln.out).mono ?_; rintro e w2 ⟨ao', cap', rfl, hf2, hb2⟩
        go_wp2_with fail
        go_ret
        rw [hval.out] at hf2 ⊢
        exact ⟨_, _, rfl, hf2.mono hbl.size, hbl.trans (hb2.mono hbl.size)⟩
end Go.Proofs.Ytdcnkebcpaelpaa
