import Derived.Test.YtlgcflapgdkghabDoorNat1
namespace Go.Proofs.YtlgcflapgdkghabDoor
open Go.RowKit
theorem ret_i64 {a b : Int} (h : a = b) : Ending.returned (.int .i64 a) = .returned (.int .i64 b) := by rw [h]

set_option maxHeartbeats 800000 in
theorem Compare_any (ao bo : Option Addr) (ca cb : Nat) (xs ys : List Nat) (w : World) (ha : Rd w ao ca xs) (hb : Rd w bo cb ys) :
    Calls Tryd.prog 19 #[.slice ao xs.length ca, .slice bo ys.length cb] w fun e w' => e = .returned (.int .i64 (cmpn (val xs) (val ys))) ∧ w = w' := by
  have hma := ha.max
  have hla := ha.le
  have hmb := hb.max
  have hlb := hb.le
  obtain ⟨m, hm1, hm2, hm3⟩ : ∃ m, xs.length ≤ m ∧ ys.length ≤ m ∧ m = max xs.length ys.length := ⟨_, by omega, by omega, rfl⟩
  have hm5 : m ≤ xs.length ∨ m ≤ ys.length := by omega
  clear hm3
  go_enter Tryd.func19, Tryd.ntmps19
  go_wp2
  all_goals
    go_loop [15] (fun si => ∃ i : Nat, i ≤ m ∧ si = .int .i64 i ∧ Hid (∀ j, m ≤ j + i → j < m → lm xs j = lm ys j)) (fun si => m - (intOf si).toNat)
    case atStart => exact ⟨0, Nat.zero_le _, rfl, fun j h1 h2 => by omega⟩
    case round =>
      obtain ⟨i, hi, rfl, he⟩ := hrel
      by_cases hlt : i < m
      · have hx := ha.lims (m - 1 - i)
        have hy := hb.lims (m - 1 - i)
        go_wp2_with fail
        refine (limb_any _ _ (m - 1 - i) _ _ ha _ (by omega)).mono ?_; rintro e w' ⟨rfl, rfl⟩
        go_wp2_with fail
        refine (limb_any _ _ (m - 1 - i) _ _ hb _ (by omega)).mono ?_; rintro e w' ⟨rfl, rfl⟩
        go_wp2_with fail
        · have h1 : lm xs (m - 1 - i) < lm ys (m - 1 - i) := by assumption
          go_ret
          exact ⟨ret_i64 (cmpn_lt (val_lt_top ha.lims (m - 1 - i) m hm1 hm2 (by omega) (fun j h2 h3 => he.out j (by omega) h3) h1)).symm, rfl⟩
        · have h1 : lm ys (m - 1 - i) < lm xs (m - 1 - i) := by assumption
          go_ret
          exact ⟨ret_i64 (cmpn_gt (val_lt_top hb.lims (m - 1 - i) m hm2 hm1 (by omega) (fun j h2 h3 => (he.out j (by omega) h3).symm) h1)).symm, rfl⟩
        · have h1 : ¬ lm xs (m - 1 - i) < lm ys (m - 1 - i) := by assumption
          have h2 : ¬ lm ys (m - 1 - i) < lm xs (m - 1 - i) := by assumption
          go_round
          case rel => exact ⟨i + 1, by omega, by go_num, fun j h3 h4 => by
            by_cases e : j = m - 1 - i
            · subst e; omega
            · exact he.out j (by omega) h4⟩
          case measure => simp [intOf]; omega
      · obtain rfl : i = m := by omega
        have hv := Lib.hid (cmpn_eq (val_eq_all i hm1 hm2 (fun j h => he.out j (by omega) h)))
        go_wp2
        go_ret
        exact ⟨ret_i64 hv.out.symm, rfl⟩

/-- make of n limbs -/
theorem Own.made {w w' : World} {n : Nat} (h : w'.ownsRow w.heap.size 31 1 (.slice (some ⟨w.heap.size, 0, none⟩) n n) n (madeCells (Value.int .u32 0).cells (n * 1)).toList) : Own w' w.heap.size (List.replicate n 0) := by
  have e : (madeCells (Value.int .u32 0).cells (n * 1)).toList = lits (List.replicate n 0) := by
    rw [show (Value.int .u32 0).cells = #[Value.int .u32 0] from rfl, toList_madeCells_one, Nat.mul_one]
    simp [lits]
  rw [e] at h
  exact (Own.of_row h).1

/-- one limb of a sum -/
theorem sum_step (V A B P x y c d c' : Nat) (h : V + c * P = A + B) (h2 : x + y + c = d + 4294967296 * c') : V + d * P + c' * (P * 4294967296) = A + x * P + (B + y * P) := by
  have h3 : (x + y + c) * P = (d + 4294967296 * c') * P := by rw [h2]
  grind

theorem add_end {xs ys cs : List Nat} {m c : Nat} (hx : Lims xs) (hy : Lims ys) (hcs : Lims cs) (h1 : xs.length ≤ m) (h2 : ys.length ≤ m) (hlen : cs.length = m + 1) (hv : vl cs (m + 1) + c * pw (m + 1) = vl xs (m + 1) + vl ys (m + 1)) :
    trim cs = dig (val xs + val ys) := by
  have e := trim_dig hcs
  rw [e]; congr 1
  rw [vl_ge xs _ (by omega), vl_ge ys _ (by omega), ← hlen, vl_all, hlen, pw_succ] at hv
  have h3 := Nat.lt_of_lt_of_le (val_lt hx) (pw_mono h1)
  have h4 := Nat.lt_of_lt_of_le (val_lt hy) (pw_mono h2)
  have h5 := pw_pos m
  rcases Nat.eq_zero_or_pos c with h | h
  · subst h; omega
  · have h6 : 1 * (pw m * 4294967296) ≤ c * (pw m * 4294967296) := Nat.mul_le_mul_right _ h
    omega

set_option maxHeartbeats 800000 in
set_option maxRecDepth 100000 in
theorem Add_any (ao bo : Option Addr) (ca cb : Nat) (xs ys : List Nat) (w : World) (ha : Rd w ao ca xs) (hb : Rd w bo cb ys) (hx : xs.length ≤ 1099511627776) (hy : ys.length ≤ 1099511627776) :
    Calls Tryd.prog 14 #[.slice ao xs.length ca, .slice bo ys.length cb] w fun e w' => ∃ ao' cap', e = .returned (.slice ao' (dig (val xs + val ys)).length cap') ∧ Fr w.heap.size w' ao' cap' (dig (val xs + val ys)) ∧ Below w.heap.size w w' := by
  have hma := ha.max
  have hla := ha.le
  have hmb := hb.max
  have hlb := hb.le
  obtain ⟨m, hm1, hm2, hm3⟩ : ∃ m, xs.length ≤ m ∧ ys.length ≤ m ∧ m = max xs.length ys.length := ⟨_, by omega, by omega, rfl⟩
  have hm5 : m ≤ xs.length ∨ m ≤ ys.length := by omega
  clear hm3
  obtain ⟨i0, hi, hz0, hz1, hz2⟩ := info_parts infoU32
  go_enter Tryd.func14, Tryd.ntmps14
  go_wp2_with (at_make; go_loud (refine wpList_make_full _ rfl _ _ 23 rfl w.heap.size 31 i0 (.int .u32 0) 1 Tryd.underlying23 hi hz0 hz1 _ _ _ _ (m + 1) rfl rfl (by omega) (by omega) (by rw [hz2]; omega) (by unfold maxLen; omega) (Nat.le_refl _) ?_); intro w1 hown hgr)
  all_goals
    have hown0 := Own.made hown
    clear hown hi hz0 hz1 hz2
    have hbel : Below w.heap.size w w1 := (Below.refl _ _).grown hgr (Nat.le_refl _) (fun k hk => by cases hk)
    go_loopw [6, 17] (fun s6 s17 wr => ∃ (i c : Nat) (cs : List Nat), i ≤ m + 1 ∧ s6 = .int .u64 c ∧ s17 = .int .i64 i ∧ c ≤ 1 ∧ Hid (cs.length = m + 1) ∧ Lims cs ∧ Own wr w.heap.size cs ∧ Below w.heap.size w wr ∧
        Hid (vl cs i + c * pw i = vl xs i + vl ys i)) (fun _ s17 _ => m + 1 - (intOf s17).toNat)
    case atStart => exact ⟨0, 0, _, by omega, rfl, rfl, by omega, List.length_replicate .., lims_replicate _, hown0, hbel, by simp [vl, Hid]⟩
    case round =>
      obtain ⟨i, c, cs, hi, rfl, rfl, hc, hlen, hlc, hown, hbl, hv⟩ := hrel
      have har := ha.below hbl
      have hbr := hb.below hbl
      by_cases hlt : i < m + 1
      · have hx := ha.lims i
        have hy := hb.lims i
        have hcell := hown.cell (j := i) (by rw [hlen.out]; exact hlt)
        have hfro := hown.frozen i
        go_wp2_with fail
        refine (limb_any _ _ i _ _ har _ (by omega)).mono ?_; rintro e w' ⟨rfl, rfl⟩
        go_wp2_with fail
        refine (limb_any _ _ i _ _ hbr _ (by omega)).mono ?_; rintro e w' ⟨rfl, rfl⟩
        go_wp2_with fail
        have e1 : ((c : Int) + ((lm xs i : Nat) + (lm ys i : Nat))) % 4294967296 = ((c + (lm xs i + lm ys i)) % 4294967296 : Nat) := by omega
        have hown2 := hown.setCell (j := i) (by rw [hlen.out]; exact hlt) ((c + (lm xs i + lm ys i)) % 4294967296)
        rw [← e1] at hown2
        go_roundw
        case rel => exact ⟨i + 1, (c + (lm xs i + lm ys i)) / 4294967296, _, by omega, by go_num, by go_num, by omega, (List.length_set ..).trans hlen.out, lims_set hlc i _ (by omega), hown2, hbl.setCell (Nat.le_refl _) _, by
          show _ = _
          rw [vl, vl, vl, vl_set_ge _ _ _ _ (Nat.le_refl _), lm_set _ _ _ _ (by rw [hlen.out]; exact hlt), if_pos rfl, pw_succ]
          exact sum_step _ _ _ _ _ _ _ _ _ hv.out (by omega)⟩
        case measure => simp [intOf]; omega
      · obtain rfl : i = m + 1 := by omega
        have ht := Lib.hid (add_end ha.lims hb.lims hlc hm1 hm2 hlen.out hv.out)
        have hfr := (Fr.of_own hown hlc (Nat.le_refl _) (m + 1) (by rw [hlen.out]; exact Nat.le_refl _) (by omega))
        have hln := Lib.hid hlen.out.symm
        clear har hbr hgr hown0 hbel hlen hv
        go_wp2_with fail
        refine (significant_len _ _ _ _ hfr.rd _ hln.out).mono ?_; rintro e w' ⟨rfl, rfl⟩
        go_wp2_with fail
        go_ret
        have hfr2 := hfr.trim
        rw [ht.out] at hfr2
        exact ⟨_, _, ret_len (congrArg List.length ht.out), hfr2, hbl⟩
end Go.Proofs.YtlgcflapgdkghabDoor
