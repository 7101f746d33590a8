import Derived.Test.YtejcdgkcmbmbmaaDoorCls7
import Derived.Test.YtejcdgkcmbmbmaaDoorCls6
import Derived.Test.YtejcdgkcmbmbmaaDoorCls9
import Derived.Deep.CutBlock
/- ClassificationLevels for all inputs: Level, Parent and Path of any string. -/
namespace Go.Proofs.YtejcdgkcmbmbmaaDoor.C6
open Go.RowKit Go.Sort

/-- the box of two texts -/
def Two (w : World) (g : Nat) (u x : ByteArray) : Prop := w.heap[g]? = some (.cells #[.string u, .string x] 9 (0, 0))
theorem Two.new (w : World) (u x : ByteArray) : Two (w.alloc (.cells #[.string u, .string x] 9)) w.heap.size u x := by
  unfold Two World.alloc
  simp
theorem Two.lt {w : World} {g : Nat} {u x : ByteArray} (h : Two w g u x) : g < w.heap.size := (Array.getElem?_eq_some_iff.1 h).1
theorem Two.below {w w' : World} {g : Nat} {u x : ByteArray} (h : Two w g u x) (b : Below w.heap.size w w') : Two w' g u x := (b.block g h.lt).trans h
theorem Two.at {w : World} {g : Nat} {u x : ByteArray} (h : Two w g u x) {i : Nat} (hi : i < 2) : ∃ y, w.cell? ⟨g, i, none⟩ = some (.string y) ∧ (y = u ∨ y = x) := by
  unfold Two at h
  have : i = 0 ∨ i = 1 := by omega
  rcases this with rfl | rfl
  · exact ⟨u, by simp [World.cell?, h], .inl rfl⟩
  · exact ⟨x, by simp [World.cell?, h], .inr rfl⟩

set_option maxHeartbeats 8000000 in
set_option maxRecDepth 100000 in
theorem ClassificationLevels_any (s : ByteArray) (ao : Option Addr) (zs : List Int) (cap : Nat) (w : World) (hs : s.size ≤ 9223372036854775807) (hr : RdZ w ao cap zs) (hev : ErrV w) :
    Calls Tryd.prog 5 #[.string s, .slice ao zs.length cap] w fun e w' => e = .returned (.bool true) ∧ Below w.heap.size w w' := by
  obtain ⟨q, hq⟩ : ∃ q : Nat, min ((s.size : Nat) : Int) 30 = (q : Int) := ⟨(min ((s.size : Nat) : Int) 30).toNat, by omega⟩
  have hqs : q ≤ s.size := by omega
  have hqI : (q : Int) ≤ (s.size : Int) := by omega
  have HQ : Hid (q ≤ 30) := by unfold Hid; omega
  have hu : (s.extract 0 q).size ≤ 30 := by simp [ByteArray.size_extract]; omega
  have b1 := below_new w (.cells #[.slice ao zs.length cap, .int .i64 0] 26)
  have HC := Lib.hid (code_v w.heap.size ao cap zs 0 (w.alloc (.cells #[.slice ao zs.length cap, .int .i64 0] 26)).drew (Tap.new w ao zs.length cap) (hr.below b1.drew) hr.lt (by omega))
  have HB1 := Lib.hid b1.drew
  have HE := Lib.hid hev
  obtain ⟨n, hn⟩ : ∃ n, n = zs.length := ⟨_, rfl⟩
  unfold Hid at HC HB1
  rw [← hn] at HC HB1 ⊢
  have HC2 := Lib.hid HC
  have HB2 := Lib.hid HB1
  clear hr hev b1 HC HB1 hn
  go_enter Tryd.func5, Tryd.ntmps5
  go_upto_region 1 with fail
  go_cut [20, 21, 22] from 11 (fun v20 v21 v22 wx => ∃ (g : Nat) (u x : ByteArray), v20 = .slice (some ⟨g, 0, none⟩) 2 2 ∧ v21 = .int .i64 2 ∧ v22 = .int .i64 0 ∧ u.size ≤ 30 ∧ x.size ≤ 30 ∧ Hid (Two wx g u x) ∧ Hid (Below w.heap.size w wx))
  case first =>
    go_region_with (go_at_call 14; refine HC2.out.mono ?_; rintro e w1 ⟨X, rfl, hX, g1, j, _, _, _⟩)
    all_goals
      have HB3 := Lib.hid (HB2.out.trans (gb_below g1 (by simp [World.drew])))
      have HT3 := Lib.hid (Two.new w1 (s.extract 0 q) X)
      have HB4 := Lib.hid (keep HB3.out (below_new w1 (.cells #[.string (s.extract 0 q), .string X] 9)))
      go_wp2_with fail
      go_meet
      exact ⟨_, _, _, rfl, rfl, rfl, hu, by omega, HT3, HB4⟩
  case rest =>
    obtain ⟨g, u, x, rfl, rfl, rfl, hu30, hx30, htwo, hbel⟩ := hcut
    clear hq hqs hqI HQ hu HC2 HB2
    go_wp2_with fail
    go_loopw [22] (fun s22 wr => ∃ i : Nat, i ≤ 2 ∧ s22 = .int .i64 (i : Int) ∧ Hid (Two wr g u x) ∧ Hid (Below w.heap.size w wr)) (fun s22 _ => 2 - (intOf s22).toNat)
    case atStart => exact ⟨0, by omega, rfl, htwo, hbel⟩
    case round =>
      obtain ⟨i, hi2, rfl, htw, hbl⟩ := hrel
      by_cases hlt : i < 2
      · obtain ⟨y, hy, hyy⟩ := htw.out.at hlt
        have hy30 : y.size ≤ 1000 := by rcases hyy with rfl | rfl <;> omega
        have P1 := Lib.hid (fun w h => Parent_v y w h)
        have P2 := Lib.hid (fun w => rParent_v y hy30 w)
        have L1 := Lib.hid (fun w h => Level_v y w h)
        have L2 := Lib.hid (fun w => rLevel_v y hy30 w)
        have H1 := Lib.hid (fun w h => Path_v y w h)
        have H2 := Lib.hid (fun w => rPath_v y hy30 w)
        obtain ⟨pa, hpa⟩ : ∃ t, t = (par y).1 := ⟨_, rfl⟩
        obtain ⟨pb, hpb⟩ : ∃ t, t = (par y).2 := ⟨_, rfl⟩
        obtain ⟨lv, hlv⟩ : ∃ t, t = lev y := ⟨_, rfl⟩
        obtain ⟨ph, hph⟩ : ∃ t, t = pth y := ⟨_, rfl⟩
        unfold Hid at P1 P2 L1 L2 H1 H2
        rw [← hpa, ← hpb] at P1 P2
        rw [← hlv] at L1 L2
        rw [← hph] at H1 H2
        have P1' := Lib.hid P1
        have P2' := Lib.hid P2
        have L1' := Lib.hid L1
        have L2' := Lib.hid L2
        have H1' := Lib.hid H1
        have H2' := Lib.hid H2
        clear P1 P2 L1 L2 H1 H2 hpa hpb hlv hph hyy
        go_wp2_with fail
        refine (P1'.out _ (HE.out.below hbl.out)).mono ?_; rintro e v1 ⟨rfl, c1⟩
        have D1 := Lib.hid (keep hbl.out c1)
        have T1 := Lib.hid (htw.out.below c1)
        clear c1
        go_wp2_with fail
        refine (P2'.out _).mono ?_; rintro e v2 ⟨rfl, c2⟩
        have D2 := Lib.hid (keep D1.out c2)
        have T2 := Lib.hid (T1.out.below c2)
        clear c2
        go_wp2_with fail
        refine (L1'.out _ (HE.out.below D2.out)).mono ?_; rintro e v3 ⟨rfl, c3⟩
        have D3 := Lib.hid (keep D2.out c3)
        have T3 := Lib.hid (T2.out.below c3)
        clear c3
        go_wp2_with fail
        refine (L2'.out _).mono ?_; rintro e v4 ⟨rfl, c4⟩
        have D4 := Lib.hid (keep D3.out c4)
        have T4 := Lib.hid (T3.out.below c4)
        clear c4
        go_wp2_with fail
        refine (H1'.out _ (HE.out.below D4.out)).mono ?_; rintro e v5 ⟨z5, rfl, o5, c5⟩
        obtain ⟨a5, p5, rfl, r5, _⟩ := RdV.of_row o5
        have D5 := Lib.hid (keep D4.out c5)
        have T5 := Lib.hid (T4.out.below c5)
        have R5 := Lib.hid r5
        rw [strs_length]
        clear c5 o5 r5
        go_wp2_with fail
        refine (H2'.out _).mono ?_; rintro e v6 ⟨z6, rfl, o6, c6⟩
        obtain ⟨a6, p6, rfl, r6, _⟩ := RdV.of_row o6
        have D6 := Lib.hid (keep D5.out c6)
        have T6 := Lib.hid (T5.out.below c6)
        have R6 := Lib.hid r6
        have R56 := Lib.hid (R5.out.below c6)
        have S := SameStrings_v a5 a6 p5 p6 ph ph v6 R56.out R6.out
        rw [decide_eq_true rfl] at S
        have S' := Lib.hid S
        rw [strs_length]
        clear c6 o6 r6 S
        go_wp2_with fail
        refine (S'.out).mono ?_; rintro e v7 ⟨rfl, c7⟩
        have D7 := Lib.hid (keep D6.out c7)
        have T7 := Lib.hid (T6.out.below c7)
        clear c7
        go_wp2_with fail
        go_roundw
        case rel => exact ⟨i + 1, by omega, by go_num, T7, D7⟩
        case measure => simp [intOf]; omega
      · obtain rfl : i = 2 := by omega
        go_wp2_with fail
        refine (awake_v _ (HE.out.below hbl.out)).mono ?_; rintro e w9 ⟨rfl, b9⟩
        have BE := Lib.hid (keep hbl.out b9)
        clear b9
        go_wp2_with fail
        go_ret
        exact ⟨rfl, BE.out⟩
end Go.Proofs.YtejcdgkcmbmbmaaDoor.C6
