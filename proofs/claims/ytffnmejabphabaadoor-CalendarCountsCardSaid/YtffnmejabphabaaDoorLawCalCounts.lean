import Derived.Test.YtffnmejabphabaaDoorCal12
/- CalendarCounts: the walk. -/
namespace Go.Proofs.YtffnmejabphabaaDoor
open Go.RowKit Go.Sort

set_option maxHeartbeats 8000000 in
set_option maxRecDepth 100000 in
theorem CalendarCounts_any (d k : Int) (to : Option Addr) (ct : Nat) (ts : List Int) (w : World) (ht : RdI w to ct ts) (htab : Tab w) :
    Calls Tryd.prog 10 #[.int .i64 d, .int .i64 k, .slice to ts.length ct] w fun e w' => e = .returned (.bool true) ∧ Below w.heap.size w w' := by
  have HT := Lib.hid ht
  have HTab := Lib.hid htab
  clear ht htab
  go_enter Tryd.func10, Tryd.ntmps10
  go_wp2_with fail
  refine (Fold_v d 182221 (by omega) (by omega) _ 182221 rfl).mono ?_; rintro e w' ⟨n, rfl, hn, rfl⟩
  go_wp2_with fail
  refine (law_holidays to ct ts ((n : Int) + 5) w HT.out (by omega) (by omega)).mono ?_; rintro e w1 ⟨ho, hc, hs, rfl, hrh, hl, b1⟩
  have HRH := Lib.hid hrh
  clear hrh
  go_wp2_with fail
  refine (Fold_v k 30 (by omega) (by omega) _ 30 rfl).mono ?_; rintro e w' ⟨j, rfl, hj, rfl⟩
  obtain ⟨c, hcj⟩ : ∃ c, c = j + 1 := ⟨_, rfl⟩
  obtain ⟨m, hm, hw⟩ := fwd_ends hs ((n : Int) + 1) c 9 hl (by omega) (by omega) (by omega) (by omega)
  obtain ⟨m', e1, e2, e3, e4, e5, e6⟩ := hw.fwd rfl
  have hmm : m' = m := by simp at e1; omega
  subst hmm
  have hsh := sh_fwd (d := (n : Int)) (by omega) (by omega) (by omega) (by omega) hl hw
  obtain ⟨to', hto⟩ : ∃ t : Int, t = (n : Int) + 1 + (m' : Int) := ⟨_, rfl⟩
  rw [← hto] at hsh e2 e4 e5
  obtain ⟨C, hC⟩ : ∃ C : Int, 1 + (j : Int) = C := ⟨_, rfl⟩
  rw [show ((c : Nat) : Int) = C by omega] at hsh
  have C0 : 1 ≤ C := by omega
  have C1 : C ≤ 30 := by omega
  have HCC := Lib.hid hC
  have HS := Lib.hid hsh
  have HB := Lib.hid e2
  have HC : Hid (cnt (bus hs) ((n : Int) + 1) m' = j) := by unfold Hid; omega
  have g1 : (to' ≤ (n : Int)) = False := by simp; omega
  have g2 : decide (to' ≤ (n : Int)) = false := by simp; omega
  have g3 : decide ((n : Int) + 400 < to') = false := by simp; omega
  have g4 : ¬ to' ≤ (n : Int) := by omega
  have g5 : ¬ (n : Int) + 400 < to' := by omega
  have g6 : to' ≤ 200000 := by omega
  have HTO := Lib.hid hto
  clear g1 hsh hw e1 e2 e3 e4 e5 e6 hto hcj
  go_wp2_with fail
  refine (Shift_v (n : Int) C ho hc hs to' 0 _ HRH.out HS.out).mono ?_; rintro e w' ⟨rfl, rfl⟩
  clear hC
  go_wp2_with fail
  go_loop [12, 13] (fun s12 s13 => ∃ i : Nat, i ≤ m' ∧ s12 = .int .i64 ((cnt (bus hs) ((n : Int) + 1) i : Nat) : Int) ∧ s13 = .int .i64 ((n : Int) + 1 + (i : Int)) ∧ Hid (cnt (bus hs) ((n : Int) + 1) i ≤ j)) (fun _ s13 => (to' - intOf s13).toNat)
  case atStart => exact ⟨0, by omega, rfl, by simp, by unfold Hid; simp [cnt]⟩
  case round =>
    obtain ⟨i, him, rfl, rfl, hcl⟩ := hrel
    have hcl0 : cnt (bus hs) ((n : Int) + 1) i ≤ 30 := by have := hcl.out; omega
    by_cases hlt : i < m'
    · have hlt2 : decide ((n : Int) + 1 + (i : Int) < to') = true := by have := HTO.out; simp; omega
      have hlt3 : (n : Int) + 1 + (i : Int) < to' := by have := HTO.out; omega
      obtain ⟨q, hq⟩ : ∃ q, bus hs ((n : Int) + 1 + (i : Int)) = q := ⟨_, rfl⟩
      have hcs := cnt_succ (bus hs) ((n : Int) + 1) i
      have hcm := cnt_mono (bus hs) ((n : Int) + 1) (show i + 1 ≤ m' by omega)
      rw [HC.out] at hcm
      have Q := Lib.hid hq
      rw [hq] at hcs
      obtain ⟨x, hx⟩ : ∃ x, x = cnt (bus hs) ((n : Int) + 1) i := ⟨_, rfl⟩
      rw [← hx] at hcs hcl0 ⊢
      have HCS := Lib.hid hcs
      have HCM := Lib.hid hcm
      clear hq hcs hcm hx
      cases q
      · go_wp2_with fail
        refine (Business_v _ ho hc hs _ HRH.out).mono ?_; rintro e w' ⟨rfl, rfl⟩
        rw [Q.out]
        go_wp2_with fail
        go_round
        case rel => exact ⟨i + 1, by omega, by have := HCS.out; simp at this; rw [this], by go_num, HCM⟩
        case measure => simp [intOf]; omega
      · go_wp2_with fail
        refine (Business_v _ ho hc hs _ HRH.out).mono ?_; rintro e w' ⟨rfl, rfl⟩
        rw [Q.out]
        go_wp2_with fail
        go_round
        case rel => exact ⟨i + 1, by omega, by have := HCS.out; simp at this; rw [this]; go_num, by go_num, HCM⟩
        case measure => simp [intOf]; omega
    · obtain rfl : i = m' := by omega
      have hlt2 : decide ((n : Int) + 1 + (i : Int) < to') = false := by have := HTO.out; simp; omega
      have hlt3 : ¬ (n : Int) + 1 + (i : Int) < to' := by have := HTO.out; omega
      obtain ⟨x, hx⟩ : ∃ x, x = cnt (bus hs) ((n : Int) + 1) i := ⟨_, rfl⟩
      have hxc : ((x : Int) == C - 1) = true := beq_iff_eq.2 (by have := HC.out; have := HCC.out; omega)
      rw [← hx]
      clear hcl hcl0 hx
      go_wp2_with fail
      refine (Business_v _ ho hc hs _ HRH.out).mono ?_; rintro e w' ⟨rfl, rfl⟩
      rw [HB.out]
      go_wp2_with fail
      refine (awake_v _ (HTab.out.below b1)).mono ?_; rintro e w5 ⟨rfl, b5⟩
      have BE := keepC b1 b5
      go_wp2_with fail
      go_ret
      exact ⟨rfl, BE⟩

end Go.Proofs.YtffnmejabphabaaDoor
