import Derived.Test.YtejcdgkcmbmbmaaDoorTwo
/- ClassificationParses for all inputs: Parse of any string, Format of any parts, and one undoes the other. -/
namespace Go.Proofs.YtejcdgkcmbmbmaaDoor.C6
open Go.RowKit Go.Sort

set_option maxHeartbeats 8000000 in
set_option maxRecDepth 100000 in
theorem ClassificationParses_any (s : ByteArray) (po : Option Addr) (ps : List Int) (pc : Nat) (ao : Option Addr) (zs : List Int) (cap : Nat) (w : World) (hs : s.size ≤ 9223372036854775807) (hp : RdZ w po pc ps) (hr : RdZ w ao cap zs) (hev : ErrV w) :
    Calls Tryd.prog 3 #[.string s, .slice po ps.length pc, .slice ao zs.length cap] w fun e w' => e = .returned (.bool true) ∧ Below w.heap.size w w' := by
  obtain ⟨q, hq⟩ : ∃ q : Nat, min ((s.size : Nat) : Int) 30 = (q : Int) := ⟨(min ((s.size : Nat) : Int) 30).toNat, by omega⟩
  have hqs : q ≤ s.size := by omega
  have hqI : (q : Int) ≤ (s.size : Int) := by omega
  have HQ : Hid (q ≤ 30) := by unfold Hid; omega
  have hu : (s.extract 0 q).size ≤ 30 := by simp [ByteArray.size_extract]; omega
  obtain ⟨r, hrr⟩ : ∃ r : Nat, min ((ps.length : Nat) : Int) 8 = (r : Int) := ⟨(min ((ps.length : Nat) : Int) 8).toNat, by omega⟩
  have hrp : r ≤ ps.length := by omega
  have hpc := hp.1
  have hpc2 := hp.2.1
  rw [intz_length] at hpc
  have b1 := below_new w (.cells #[.slice ao zs.length cap, .int .i64 0] 26)
  have HC := Lib.hid (code_v w.heap.size ao cap zs 0 (w.alloc (.cells #[.slice ao zs.length cap, .int .i64 0] 26)) (Tap.new w ao zs.length cap) (hr.below b1) hr.lt (by omega))
  have HB1 := Lib.hid b1
  have HE := Lib.hid hev
  have HP : Hid (RdZ w po pc (ps.take r)) := hp.takeZ r
  have HPL : Hid ((ps.take r).length = r) := by unfold Hid; rw [List.length_take]; omega
  obtain ⟨n, hn⟩ : ∃ n, n = zs.length := ⟨_, rfl⟩
  obtain ⟨m, hm⟩ : ∃ m, m = ps.length := ⟨_, rfl⟩
  unfold Hid at HC HB1
  rw [← hn] at HC HB1 ⊢
  rw [← hm] at hrr hrp hpc ⊢
  have HC2 := Lib.hid HC
  have HB2 := Lib.hid HB1
  have hrc : r ≤ pc := by omega
  have hrcI : (r : Int) ≤ (pc : Int) := by omega
  clear hr hev b1 HC HB1 hn hm hp
  go_enter Tryd.func3, Tryd.ntmps3
  go_wp2_with fail
  refine HC2.out.mono ?_; rintro e w1 ⟨X, rfl, hX, g1, j, _, _, _⟩
  have HB3 := Lib.hid (HB2.out.trans (gb_below g1 (by simp)))
  have HT3 := Lib.hid (Two.new w1 (s.extract 0 q) X)
  have HB4 := Lib.hid (keep HB3.out (below_new w1 (.cells #[.string (s.extract 0 q), .string X] 9)))
  have HX : Hid (X.size ≤ 14) := hX
  have HU : Hid ((s.extract 0 q).size ≤ 30) := hu
  clear g1 hX hu HQ HC2 HB2
  go_wp2_with fail
  go_loopw [31] (fun s31 wr => ∃ i : Nat, i ≤ 2 ∧ s31 = .int .i64 (i : Int) ∧ Hid (Two wr w1.heap.size (s.extract 0 q) X) ∧ Hid (Below w.heap.size w wr)) (fun s31 _ => 2 - (intOf s31).toNat)
  case atStart => exact ⟨0, by omega, rfl, HT3, HB4⟩
  case round =>
    obtain ⟨i, hi2, rfl, htw, hbl⟩ := hrel
    by_cases hlt : i < 2
    · obtain ⟨y, hy, hyy⟩ := htw.out.at hlt
      have hy30 : y.size ≤ 1000 := by have := HU.out; have := HX.out; rcases hyy with rfl | rfl <;> omega
      clear hyy
      go_wp2_with fail
      refine (Parse_v y _ (HE.out.below hbl.out)).mono ?_; rintro e v1 h1
      rcases h1.cases with ⟨p, a5, c5, hP, hp, hys, rfl, hr1, _, c1⟩ | ⟨hP, rfl, c1⟩
      · have HPts := Lib.hid hp
        have HYS := Lib.hid hys
        have HPy := Lib.hid hP
        have D1 := Lib.hid (keep hbl.out c1)
        have T1 := Lib.hid (htw.out.below c1)
        have R1 := Lib.hid hr1
        clear c1 hP hp hys h1 hr1
        obtain ⟨l, hl⟩ : ∃ l, l = p.length := ⟨_, rfl⟩
        rw [← hl]
        have HL := Lib.hid hl
        clear hl
        go_wp2_with fail
        refine (rParse_v y hy30 _).mono ?_; rintro e v2 h2
        rcases h2.cases with ⟨p', a6, c6, hP', _, _, rfl, hr2, _, c2⟩ | ⟨hP', rfl, c2⟩
        · have : p' = p := Option.some.inj (hP'.symm.trans HPy.out)
          subst this
          have D2 := Lib.hid (keep D1.out c2)
          have T2 := Lib.hid (T1.out.below c2)
          have R2 := Lib.hid hr2
          have R12 := Lib.hid (R1.out.below c2)
          have hS := SameInts_v a5 a6 c5 c6 (zz p') (zz p') v2 (by have := R12.out; rw [ints_z] at this; exact this) (by have := R2.out; unfold RdN at this; rw [ints_z] at this; exact this)
          rw [decide_eq_true rfl, zz_length, ← HL.out] at hS
          have S := Lib.hid hS
          rw [← HL.out]
          clear c2 hP' h2 hr2 hS
          go_wp2_with fail
          refine (S.out).mono ?_; rintro e v3 ⟨rfl, c3⟩
          have D3 := Lib.hid (keep D2.out c3)
          have T3 := Lib.hid (T2.out.below c3)
          have R3 := Lib.hid (R12.out.below c3)
          have hF := Format_v a5 c5 (zz p') v3 (by have := R3.out; rw [ints_z] at this; exact this)
          rw [zz_length, ← HL.out] at hF
          have hF2 : Calls Tryd.prog 18 #[.slice a5 l c5] v3 fun e w' => e = .returned (.tuple #[.string y, .int .i64 0]) ∧ v3 = w' := hF.mono fun e w' ⟨he, hw⟩ => ⟨by rw [HYS.out]; exact fmt_txt HPts.out he, hw⟩
          have F := Lib.hid hF2
          clear c3 hF hF2
          go_wp2_with fail
          refine (F.out).mono ?_; rintro e v4 ⟨rfl, rfl⟩
          go_wp2_with fail
          go_roundw
          case rel => exact ⟨i + 1, by omega, by go_num, T3, D3⟩
          case measure => simp [intOf]; omega
        · exact absurd (HPy.out.symm.trans hP') (by simp)
      · have HPy := Lib.hid hP
        have D1 := Lib.hid (keep hbl.out c1)
        have T1 := Lib.hid (htw.out.below c1)
        clear c1 hP h1
        go_wp2_with fail
        refine (rParse_v y hy30 _).mono ?_; rintro e v2 h2
        rcases h2.cases with ⟨p', a6, c6, hP', _, _, rfl, hr2, _, c2⟩ | ⟨hP', rfl, c2⟩
        · exact absurd (HPy.out.symm.trans hP') (by simp)
        · have D2 := Lib.hid (keep D1.out c2)
          have T2 := Lib.hid (T1.out.below c2)
          have hS := SameInts_v none none 0 0 [] [] v2 (RdV.nil _) (RdV.nil _)
          rw [decide_eq_true rfl] at hS
          have S := Lib.hid hS
          clear c2 hP' h2 hS
          go_wp2_with fail
          refine (S.out).mono ?_; rintro e v3 ⟨rfl, c3⟩
          have D3 := Lib.hid (keep D2.out c3)
          have T3 := Lib.hid (T2.out.below c3)
          clear c3
          go_wp2_with fail
          go_roundw
          case rel => exact ⟨i + 1, by omega, by go_num, T3, D3⟩
          case measure => simp [intOf]; omega
    · obtain rfl : i = 2 := by omega
      obtain ⟨T, x, hT⟩ := fmt_one (ps.take r)
      have hF : ∀ w, RdZ w po pc (ps.take r) → Calls Tryd.prog 18 #[.slice po (ps.take r).length pc] w fun e w' => e = .returned (.tuple #[.string T, .int .i64 x]) ∧ w = w' := fun w h => (Format_v po pc (ps.take r) w h).mono fun e w' ⟨he, hw⟩ => ⟨hT e he, hw⟩
      have hG : ∀ w, RdZ w po pc (ps.take r) → Calls Tryd.prog 19 #[.slice po (ps.take r).length pc] w fun e w' => e = .returned (.tuple #[.string T, .int .i64 x]) ∧ Below w.heap.size w w' := fun w h => (rFormat_v po pc (ps.take r) w h).mono fun e w' ⟨he, hw⟩ => ⟨hT e he, hw⟩
      rw [HPL.out] at hF hG
      have F := Lib.hid hF
      have G := Lib.hid hG
      have R := Lib.hid (HP.out.below hbl.out)
      clear hF hG hT
      by_cases hpo : po = none
      · subst hpo
        have hpc0 : pc = 0 := by
          rcases HP.out.2.2 with ⟨_, h⟩ | ⟨b, o, e, _⟩
          · exact h rfl
          · cases e
        have hm0 : m = 0 := by omega
        have hr0 : r = 0 := by omega
        subst hpc0 hm0 hr0
        go_wp2_with fail
        refine (F.out _ R.out).mono ?_; rintro e v1 ⟨rfl, rfl⟩
        go_wp2_with fail
        refine (G.out _ R.out).mono ?_; rintro e v2 ⟨rfl, c2⟩
        have D2 := Lib.hid (keep hbl.out c2)
        clear c2
        go_wp2_with fail
        refine (awake_v _ (HE.out.below D2.out)).mono ?_; rintro e w9 ⟨rfl, b9⟩
        have BE := Lib.hid (keep D2.out b9)
        clear b9
        go_wp2_with fail
        go_ret
        exact ⟨rfl, BE.out⟩
      · obtain ⟨x0, rfl⟩ : ∃ x, po = some x := by
          cases po with
          | none => exact absurd rfl hpo
          | some x => exact ⟨x, rfl⟩
        clear hpo
        go_wp2_with fail
        refine (F.out _ R.out).mono ?_; rintro e v1 ⟨rfl, rfl⟩
        go_wp2_with fail
        refine (G.out _ R.out).mono ?_; rintro e v2 ⟨rfl, c2⟩
        have D2 := Lib.hid (keep hbl.out c2)
        clear c2
        go_wp2_with fail
        refine (awake_v _ (HE.out.below D2.out)).mono ?_; rintro e w9 ⟨rfl, b9⟩
        have BE := Lib.hid (keep D2.out b9)
        clear b9
        go_wp2_with fail
        go_ret
        exact ⟨rfl, BE.out⟩
end Go.Proofs.YtejcdgkcmbmbmaaDoor.C6
