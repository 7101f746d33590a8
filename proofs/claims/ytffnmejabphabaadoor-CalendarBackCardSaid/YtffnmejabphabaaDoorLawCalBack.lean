import Derived.Test.YtffnmejabphabaaDoorCal12
/- CalendarBack: the walk. -/
namespace Go.Proofs.YtffnmejabphabaaDoor
open Go.RowKit Go.Sort

set_option maxHeartbeats 8000000 in
set_option maxRecDepth 100000 in
theorem CalendarBack_any (d k : Int) (to : Option Addr) (ct : Nat) (ts : List Int) (w : World) (ht : RdI w to ct ts) (htab : Tab w) :
    Calls Tryd.prog 11 #[.int .i64 d, .int .i64 k, .slice to ts.length ct] w fun e w' => e = .returned (.bool true) ∧ Below w.heap.size w w' := by
  have HT := Lib.hid ht
  have HTab := Lib.hid htab
  clear ht htab
  go_enter Tryd.func11, Tryd.ntmps11
  go_wp2_with fail
  refine (Fold_v d 180621 (by omega) (by omega) _ 180621 rfl).mono ?_; rintro e w' ⟨n, rfl, hn, rfl⟩
  go_wp2_with fail
  refine (law_holidays to ct ts (1000 + (n : Int)) w HT.out (by omega) (by omega)).mono ?_; rintro e w1 ⟨ho, hc, hs, rfl, hrh, hl, b1⟩
  have HRH := Lib.hid hrh
  clear hrh
  obtain ⟨m1, hm1, hw1⟩ := fwd_ends hs (1000 + (n : Int)) 1 3 hl (by omega) (by omega) (by omega) (by omega)
  obtain ⟨u1, f1, f2, f3, f4, f5, f6⟩ := hw1.fwd rfl
  clear f1 f3 f6 u1
  have hs1 := Lib.hid (sh_zero (d := 1000 + (n : Int)) (by omega) (by omega) hl hw1)
  obtain ⟨F, hF⟩ : ∃ F : Int, F = 1000 + (n : Int) + (m1 : Int) := ⟨_, rfl⟩
  rw [← hF] at hs1 f2 f4 f5
  have F0 : 1000 + (n : Int) ≤ F := by omega
  have F1 : F ≤ 182000 := by omega
  clear hw1 hF
  go_wp2_with fail
  refine (Shift_v (1000 + (n : Int)) 0 ho hc hs F 0 _ HRH.out hs1.out).mono ?_; rintro e w' ⟨rfl, rfl⟩
  go_wp2_with fail
  refine (Fold_v k 30 (by omega) (by omega) _ 30 rfl).mono ?_; rintro e w' ⟨j, rfl, hj, rfl⟩
  obtain ⟨c, hcj⟩ : ∃ c, c = j + 1 := ⟨_, rfl⟩
  obtain ⟨m, hm, hw⟩ := fwd_ends hs (F + 1) c 9 hl (by omega) (by omega) (by omega) (by omega)
  obtain ⟨m', e1, e2, e3, e4, e5, e6⟩ := hw.fwd rfl
  have hmm : m' = m := by simp at e1; omega
  subst hmm
  have hsh := sh_fwd (d := F) (by omega) (by omega) (by omega) (by omega) hl hw
  have hbk := W.back (b := bus hs) (f := F) f2 f4 m' (by omega)
  rw [e3] at hbk
  obtain ⟨to', hto⟩ : ∃ t : Int, t = F + 1 + (m' : Int) := ⟨_, rfl⟩
  rw [← hto] at hsh e4 e5
  have hsb := sh_back (c := c) (d := to') (by omega) (by omega) (by omega) (by omega) hl (by rw [show to' + -1 = F + (m' : Int) by omega]; exact hbk)
  obtain ⟨C, hC⟩ : ∃ C : Int, 1 + (j : Int) = C := ⟨_, rfl⟩
  rw [show ((c : Nat) : Int) = C by omega] at hsh hsb
  have C0 : 1 ≤ C := by omega
  have C1 : C ≤ 30 := by omega
  have HS := Lib.hid hsh
  have HSB := Lib.hid hsb
  have T0 : 0 ≤ to' := e4
  have T1 : to' ≤ 182620 := e5
  have hF0 : decide (1000 + (n : Int) ≤ F) = true := by simp; omega
  clear hsh hsb hbk hw e1 e2 e3 e4 e5 e6 hto hcj hs1 f2 f4 f5
  go_wp2_with fail
  refine (Shift_v F C ho hc hs to' 0 _ HRH.out HS.out).mono ?_; rintro e w' ⟨rfl, rfl⟩
  clear hC
  have hwn : IntKind.i64.wrap (-C) = -C := IntWalk.i64_in _ (by omega)
  go_wp2_with fail
  refine (Shift_v to' (-C) ho hc hs F 0 _ HRH.out HSB.out).mono ?_; rintro e w' ⟨rfl, rfl⟩
  go_wp2_with fail
  refine (awake_v _ (HTab.out.below b1)).mono ?_; rintro e w5 ⟨rfl, b5⟩
  have BE := keepC b1 b5
  go_wp2_with fail
  go_ret
  exact ⟨rfl, BE⟩
end Go.Proofs.YtffnmejabphabaaDoor
