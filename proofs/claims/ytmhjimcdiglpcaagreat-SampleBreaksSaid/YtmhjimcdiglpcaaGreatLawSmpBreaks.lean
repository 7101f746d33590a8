import Derived.Test.YtmhjimcdiglpcaaGreatDrD
import Derived.Test.YtmhjimcdiglpcaaGreatDsA
import Derived.Test.YtmhjimcdiglpcaaGreatDrF
import Derived.Test.YtmhjimcdiglpcaaGreatSmpAw
/- SampleBreaks: the walk. -/
namespace Go.Proofs.YtmhjimcdiglpcaaGreat.Dr
open Go.RowKit Go.Sort C6

/-- what the code gives the reference gives, too -/
def BothB (xs : List Int) (n : Int) (ao : Option Addr) (cap : Nat) (w : World) (e : Ending) (w' : World) : Prop := Below w.heap.size w w' ∧ ∃ a c N Q E, e = .returned (.tuple #[.slice a N c, .int .i64 E]) ∧ RdN w' a c N Q ∧
  (∀ w3, Below w.heap.size w w3 → Calls Tryz.prog 16 #[.slice ao xs.length cap, .int .i64 n] w3 fun e w4 => ∃ a' c', e = .returned (.tuple #[.slice a' N c', .int .i64 E]) ∧ RdN w4 a' c' N Q ∧ Below w3.heap.size w3 w4)
theorem Breaks_both (xs : List Int) (n : Int) (ao : Option Addr) (cap : Nat) (w : World) (h19 : xs.length ≤ 19) (hr : RdZ w ao cap xs) :
    Calls Tryz.prog 15 #[.slice ao xs.length cap, .int .i64 n] w (BothB xs n ao cap w) := by
  refine (Breaks_v xs n ao cap w h19 hr).mono ?_
  rintro e w' ⟨hb, ⟨hE, rfl⟩ | ⟨hE, m, od, K, a, L, c, rfl, _, hm, hsz, ho, hK, rfl, hL, hq⟩⟩
  · refine ⟨hb, none, 0, 0, fun _ => 0, drE xs n, rfl, RdN.nil _ _, fun w3 h3 => (rBreaks_bad xs n ao cap w3 h19 (hr.below h3) hE).mono ?_⟩
    rintro e w4 ⟨rfl, b4⟩
    exact ⟨none, 0, rfl, RdN.nil _ _, b4⟩
  · refine ⟨hb, a, c, L, _, 0, rfl, hq, fun w3 h3 => (rBreaks_ok xs od m K ao cap w3 hsz h19 hm ho hK (hr.below h3) hE).mono ?_⟩
    rintro e w4 ⟨a', c', L', rfl, hL', hq', b4⟩
    obtain rfl : L' = L := by rw [hL, hL']
    exact ⟨a', c', rfl, hq', b4⟩

set_option maxHeartbeats 16000000 in
set_option maxRecDepth 100000 in
theorem SampleBreaks_any (ao : Option Addr) (xs : List Int) (cap : Nat) (n : Int) (to' : Option Addr) (ts : List Int) (tc : Nat) (w : World) (hr : RdZ w ao cap xs) (ht : RdZ w to' tc ts) :
    Calls Tryz.prog 4 #[.slice ao xs.length cap, .int .i64 n, .slice to' ts.length tc] w fun e w' => e = .returned (.bool true) ∧ Below w.heap.size w w' := by
  have RW := Lib.hid (raw_d xs ao cap w hr)
  have hl12 : (xs.take 12).length ≤ 12 := by rw [List.length_take]; omega
  have hr12 : RdZ w ao cap (xs.take 12) := by
    have := RdV.take hr 12
    unfold RdZ
    rwa [show intz (xs.take 12) = (intz xs).take 12 by simp [intz, List.map_take]]
  obtain ⟨ys, hys⟩ : ∃ ys, ys = xs.take 12 := ⟨_, rfl⟩
  unfold Hid at RW
  rw [← hys] at hl12 hr12 RW
  have RW := Lib.hid RW
  obtain ⟨W3, hW3⟩ : ∃ W, W = w.alloc (.cells #[.slice to' ts.length tc, .int .i64 0] 25) := ⟨_, rfl⟩
  obtain ⟨B, hB⟩ : ∃ B, B = w.heap.size := ⟨_, rfl⟩
  have b3 : Below w.heap.size w W3 := by rw [hW3]; exact below_new _ _
  have T3 : Tap W3 B to' ts.length tc 0 := by rw [hW3, hB]; exact Tap.new w to' ts.length tc
  have MD := Lib.hid (made_v B to' tc ts 0 W3 T3 (ht.below b3) (fun h b o e => by rw [hB]; exact ht.lt h b o e) (by omega))
  have I1 : Hid (∀ w', Below w.heap.size w w' → Calls Tryz.prog 15 #[.slice ao ys.length cap, .int .i64 n] w' (BothB ys n ao cap w')) := fun w' hb => Breaks_both ys n ao cap w' (by omega) (hr12.below hb)
  have B3 := Lib.hid b3
  have HBB : Hid (B = w.heap.size) := hB
  obtain ⟨nx, hnx⟩ : ∃ n, n = xs.length := ⟨_, rfl⟩
  unfold Hid at RW
  rw [← hnx] at RW ⊢
  have RW := Lib.hid RW
  clear hr ht hys hl12 hr12 b3 T3 hnx
  go_enter Tryz.func4, Tryz.ntmps4
  go_wp2_with fail
  refine RW.out.mono ?_; rintro e w2 ⟨rfl, rfl⟩
  go_wp2_with fail
  rw [← hW3]
  try rw [← hB]
  clear hW3 hB RW
  refine MD.out.mono ?_; rintro e W4 ⟨la, lc, zs, k, rfl, _, hz8, _, _, _, hz, g4, _⟩
  have B4 : Hid (Below w2.heap.size w2 W4) := B3.out.trans (row_gb g4 B3.out.size (fun j e => by cases e; rw [HBB.out]; exact Nat.le_refl _))
  have I2 : Hid (∀ w', Below W4.heap.size W4 w' → Calls Tryz.prog 15 #[.slice la zs.length lc, .int .i64 (k : Int)] w' (BothB zs (k : Int) la lc w')) := fun w' hb => Breaks_both zs (k : Int) la lc w' (by omega) (hz.below hb)
  clear hz g4 MD B3 HBB
  go_wp2_with fail
  refine (I1.out _ B4.out).mono ?_; rintro e V1 ⟨b1, a1, c1, N1, Q1, E1, rfl, rd1, R1⟩
  have RC1 : Hid (∀ w3, Below W4.heap.size W4 w3 → Calls Tryz.prog 16 #[.slice ao ys.length cap, .int .i64 n] w3 fun e w4 => ∃ a' c', e = .returned (.tuple #[.slice a' N1 c', .int .i64 E1]) ∧ RdN w4 a' c' N1 Q1 ∧ Below w3.heap.size w3 w4) := R1
  have HB1 := Lib.hid b1
  have HD1 := Lib.hid rd1
  clear b1 rd1 R1 I1
  go_wp2_with fail
  refine (RC1.out _ HB1.out).mono ?_; rintro e V2 ⟨a2, c2, rfl, rd2, b2⟩
  have HB2 := Lib.hid (HB1.out.trans (b2.mono HB1.out.size))
  have HD1' := Lib.hid (HD1.out.below b2)
  have HD2 := Lib.hid rd2
  clear b2 rd2 RC1 HD1
  go_wp2_with fail
  refine (I2.out _ HB2.out).mono ?_; rintro e V3 ⟨b3, a3, c3, N3, Q3, E3, rfl, rd3, R3⟩
  have RC3 : Hid (∀ w3, Below V2.heap.size V2 w3 → Calls Tryz.prog 16 #[.slice la zs.length lc, .int .i64 (k : Int)] w3 fun e w4 => ∃ a' c', e = .returned (.tuple #[.slice a' N3 c', .int .i64 E3]) ∧ RdN w4 a' c' N3 Q3 ∧ Below w3.heap.size w3 w4) := R3
  have HB3 := Lib.hid b3
  have HD1 := Lib.hid (HD1'.out.below b3)
  have HD2' := Lib.hid (HD2.out.below b3)
  have HD3 := Lib.hid rd3
  have HW3 := Lib.hid (HB2.out.trans (b3.mono HB2.out.size))
  clear b3 rd3 R3 I2 HD1' HD2
  go_wp2_with fail
  refine (RC3.out _ HB3.out).mono ?_; rintro e V4 ⟨a4, c4, rfl, rd4, b4⟩
  have HW4 := Lib.hid (HW3.out.trans (b4.mono HW3.out.size))
  have HF1 := Lib.hid (HD1.out.below b4)
  have HF2 := Lib.hid (HD2'.out.below b4)
  have HF3 := Lib.hid (HD3.out.below b4)
  have HF4 := Lib.hid rd4
  clear b4 rd4 RC3 HD1 HD2' HD3 HB1 HB2 HB3 HW3
  go_wp2_with fail
  refine (SameList_v N1 Q1 a1 a2 c1 c2 V4 HF1.out HF2.out).mono ?_; rintro e V5 ⟨rfl, b5⟩
  have HW5 := Lib.hid (HW4.out.trans (b5.mono HW4.out.size))
  have HG3 := Lib.hid (HF3.out.below b5)
  have HG4 := Lib.hid (HF4.out.below b5)
  clear b5 HF1 HF2 HF3 HF4 HW4
  go_wp2_with fail
  refine (SameList_v N3 Q3 a3 a4 c3 c4 V5 HG3.out HG4.out).mono ?_; rintro e V6 ⟨rfl, b6⟩
  have HW6 := Lib.hid (HW5.out.trans (b6.mono HW5.out.size))
  clear b6 HG3 HG4 HW5
  go_wp2_with fail
  refine (awake10 _).mono ?_; rintro e V7 ⟨rfl, b7⟩
  have HW7 := Lib.hid (B4.out.trans ((HW6.out.trans (b7.mono HW6.out.size)).mono B4.out.size))
  clear b7
  go_wp2_with fail
  go_ret
  exact ⟨rfl, HW7.out⟩
end Go.Proofs.YtmhjimcdiglpcaaGreat.Dr
