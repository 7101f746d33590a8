import Derived.Test.YtghdnnfohllcbaaRotP
import Derived.Test.YtghdnnfohllcbaaSmpAw
import Derived.Shelf.SlicesE.DeleteFunc
import Derived.Ground.SlgfProg
import Derived.Sort.OwnSortedInts
/- Layer 10: ValidateRotation of both, for every rotation. -/
namespace Go.Proofs.Ytghdnnfohllcbaa.S10
open Go.RowKit Go.Sort C6

/-- a rotation's error -/
def rotE (N T S F : Int) : Int := if 1 ≤ N ∧ N ≤ 24 ∧ 1 ≤ S ∧ S ≤ 12 ∧ 1 ≤ T ∧ T ≤ N * S ∧ 0 ≤ F ∧ F ≤ 5999 then 0 else 106
theorem rotE_bad {N T S F : Int} (h : ¬ (1 ≤ N ∧ N ≤ 24 ∧ 1 ≤ S ∧ S ≤ 12 ∧ 1 ≤ T ∧ T ≤ N * S ∧ 0 ≤ F ∧ F ≤ 5999)) : rotE N T S F = 106 := if_neg h
theorem rotE_ok {N T S F : Int} (h : 1 ≤ N ∧ N ≤ 24 ∧ 1 ≤ S ∧ S ≤ 12 ∧ 1 ≤ T ∧ T ≤ N * S ∧ 0 ≤ F ∧ F ≤ 5999) : rotE N T S F = 0 := if_pos h
theorem dt {p : Prop} [Decidable p] (h : p) : decide p = true := decide_eq_true h
theorem df {p : Prop} [Decidable p] (h : ¬ p) : decide p = false := decide_eq_false h
/-- numbers that the factors of a cycle bound -/
theorem cyc_le {N S : Int} (h1 : 1 ≤ N) (h2 : N ≤ 24) (h3 : 1 ≤ S) (h4 : S ≤ 12) : 1 ≤ N * S ∧ N * S ≤ 288 :=
  ⟨Int.mul_pos (by omega) (by omega), Int.le_trans (Int.mul_le_mul h2 h4 (by omega) (by omega)) (by decide)⟩

set_option maxHeartbeats 8000000 in
set_option maxRecDepth 100000 in
theorem Validate_v (N T S F : Int) (w : World) : Calls Try.prog 33 #[.agg #[.int .i64 N, .int .i64 T, .int .i64 S, .int .i64 F]] w fun e w' => e = .returned (.int .i64 (rotE N T S F)) ∧ Below w.heap.size w w' := by
  have HB := Lib.hid (below_new w (.cells #[.int .i64 N, .int .i64 T, .int .i64 S, .int .i64 F] 62))
  by_cases h0 : N < 1
  · have d0 := dt h0
    have HE := Lib.hid (rotE_bad (N := N) (T := T) (S := S) (F := F) (by omega))
    go_enter Try.func33, Try.ntmps33
    go_wp2_with fail
    go_ret
    exact ⟨by rw [HE.out]; rfl, HB.out⟩
  have d0 := df h0
  by_cases h1 : 24 < N
  · have d1 := dt h1
    have HE := Lib.hid (rotE_bad (N := N) (T := T) (S := S) (F := F) (by omega))
    go_enter Try.func33, Try.ntmps33
    go_wp2_with fail
    go_ret
    exact ⟨by rw [HE.out]; rfl, HB.out⟩
  have d1 := df h1
  by_cases h2 : S < 1
  · have d2 := dt h2
    have HE := Lib.hid (rotE_bad (N := N) (T := T) (S := S) (F := F) (by omega))
    go_enter Try.func33, Try.ntmps33
    go_wp2_with fail
    go_ret
    exact ⟨by rw [HE.out]; rfl, HB.out⟩
  have d2 := df h2
  by_cases h3 : 12 < S
  · have d3 := dt h3
    have HE := Lib.hid (rotE_bad (N := N) (T := T) (S := S) (F := F) (by omega))
    go_enter Try.func33, Try.ntmps33
    go_wp2_with fail
    go_ret
    exact ⟨by rw [HE.out]; rfl, HB.out⟩
  have d3 := df h3
  by_cases h4 : T < 1
  · have d4 := dt h4
    have HE := Lib.hid (rotE_bad (N := N) (T := T) (S := S) (F := F) (by omega))
    go_enter Try.func33, Try.ntmps33
    go_wp2_with fail
    go_ret
    exact ⟨by rw [HE.out]; rfl, HB.out⟩
  have d4 := df h4
  obtain ⟨C, hC⟩ : ∃ C, N * S = C := ⟨_, rfl⟩
  have hCb : 1 ≤ C ∧ C ≤ 288 := by rw [← hC]; exact cyc_le (by omega) (by omega) (by omega) (by omega)
  have hCw : IntKind.i64.wrap C = C := IntWalk.i64_in _ (by omega)
  by_cases h5 : C < T
  · have d5 := dt h5
    have HE := Lib.hid (rotE_bad (N := N) (T := T) (S := S) (F := F) (by rw [hC]; omega))
    go_enter Try.func33, Try.ntmps33
    go_wp2_with fail
    go_ret
    exact ⟨by rw [HE.out]; rfl, HB.out⟩
  have d5 := df h5
  by_cases h6 : F < 0
  · have d6 := dt h6
    have HE := Lib.hid (rotE_bad (N := N) (T := T) (S := S) (F := F) (by rw [hC]; omega))
    go_enter Try.func33, Try.ntmps33
    go_wp2_with fail
    go_ret
    exact ⟨by rw [HE.out]; rfl, HB.out⟩
  have d6 := df h6
  by_cases h7 : 5999 < F
  · have d7 := dt h7
    have HE := Lib.hid (rotE_bad (N := N) (T := T) (S := S) (F := F) (by rw [hC]; omega))
    go_enter Try.func33, Try.ntmps33
    go_wp2_with fail
    go_ret
    exact ⟨by rw [HE.out]; rfl, HB.out⟩
  have d7 := df h7
  have HE := Lib.hid (rotE_ok (N := N) (T := T) (S := S) (F := F) (by rw [hC]; omega))
  go_enter Try.func33, Try.ntmps33
  go_wp2_with fail
  go_ret
  exact ⟨by rw [HE.out]; rfl, HB.out⟩
set_option maxHeartbeats 8000000 in
set_option maxRecDepth 100000 in
theorem rValidate_v (N T S F : Int) (w : World) : Calls Try.prog 34 #[.agg #[.int .i64 N, .int .i64 T, .int .i64 S, .int .i64 F]] w fun e w' => e = .returned (.int .i64 (rotE N T S F)) ∧ Below w.heap.size w w' := by
  have HB := Lib.hid (below_new w (.cells #[.int .i64 N, .int .i64 T, .int .i64 S, .int .i64 F] 62))
  by_cases h0 : N < 1
  · have d0 := dt h0
    have HE := Lib.hid (rotE_bad (N := N) (T := T) (S := S) (F := F) (by omega))
    go_enter Try.func34, Try.ntmps34
    go_wp2_with fail
    go_ret
    exact ⟨by rw [HE.out]; rfl, HB.out⟩
  have d0 := df h0
  by_cases h1 : 24 < N
  · have d1 := dt h1
    have HE := Lib.hid (rotE_bad (N := N) (T := T) (S := S) (F := F) (by omega))
    go_enter Try.func34, Try.ntmps34
    go_wp2_with fail
    go_ret
    exact ⟨by rw [HE.out]; rfl, HB.out⟩
  have d1 := df h1
  by_cases h2 : S < 1
  · have d2 := dt h2
    have HE := Lib.hid (rotE_bad (N := N) (T := T) (S := S) (F := F) (by omega))
    go_enter Try.func34, Try.ntmps34
    go_wp2_with fail
    go_ret
    exact ⟨by rw [HE.out]; rfl, HB.out⟩
  have d2 := df h2
  by_cases h3 : 12 < S
  · have d3 := dt h3
    have HE := Lib.hid (rotE_bad (N := N) (T := T) (S := S) (F := F) (by omega))
    go_enter Try.func34, Try.ntmps34
    go_wp2_with fail
    go_ret
    exact ⟨by rw [HE.out]; rfl, HB.out⟩
  have d3 := df h3
  by_cases h4 : T < 1
  · have d4 := dt h4
    have HE := Lib.hid (rotE_bad (N := N) (T := T) (S := S) (F := F) (by omega))
    go_enter Try.func34, Try.ntmps34
    go_wp2_with fail
    go_ret
    exact ⟨by rw [HE.out]; rfl, HB.out⟩
  have d4 := df h4
  obtain ⟨C, hC⟩ : ∃ C, N * S = C := ⟨_, rfl⟩
  have hCb : 1 ≤ C ∧ C ≤ 288 := by rw [← hC]; exact cyc_le (by omega) (by omega) (by omega) (by omega)
  have hCw : IntKind.i64.wrap C = C := IntWalk.i64_in _ (by omega)
  by_cases h5 : C < T
  · have d5 := dt h5
    have HE := Lib.hid (rotE_bad (N := N) (T := T) (S := S) (F := F) (by rw [hC]; omega))
    go_enter Try.func34, Try.ntmps34
    go_wp2_with fail
    go_ret
    exact ⟨by rw [HE.out]; rfl, HB.out⟩
  have d5 := df h5
  by_cases h6 : F < 0
  · have d6 := dt h6
    have HE := Lib.hid (rotE_bad (N := N) (T := T) (S := S) (F := F) (by rw [hC]; omega))
    go_enter Try.func34, Try.ntmps34
    go_wp2_with fail
    go_ret
    exact ⟨by rw [HE.out]; rfl, HB.out⟩
  have d6 := df h6
  by_cases h7 : 5999 < F
  · have d7 := dt h7
    have HE := Lib.hid (rotE_bad (N := N) (T := T) (S := S) (F := F) (by rw [hC]; omega))
    go_enter Try.func34, Try.ntmps34
    go_wp2_with fail
    go_ret
    exact ⟨by rw [HE.out]; rfl, HB.out⟩
  have d7 := df h7
  have HE := Lib.hid (rotE_ok (N := N) (T := T) (S := S) (F := F) (by rw [hC]; omega))
  go_enter Try.func34, Try.ntmps34
  go_wp2_with fail
  go_ret
  exact ⟨by rw [HE.out]; rfl, HB.out⟩
end Go.Proofs.Ytghdnnfohllcbaa.S10
/- Layer 10: Panels of the reference, and of both where there are none. -/
namespace Go.Proofs.Ytghdnnfohllcbaa.S10
open Go.RowKit Go.Sort C6

theorem Rot.ok {N T S F : Nat} (h : Rot N T S F) : rotE (N : Int) T S F = 0 := by
  obtain ⟨n1, n2, s1, s2, t1, t2, f2, c2⟩ := h
  refine rotE_ok ⟨by omega, by omega, by omega, by omega, by omega, ?_, by omega, by omega⟩
  rw [← Int.natCast_mul]; omega
theorem rValidate_rot (N T S F : Nat) (h : Rot N T S F) (w : World) : Calls Try.prog 34 #[.agg #[.int .i64 (N : Int), .int .i64 (T : Int), .int .i64 (S : Int), .int .i64 (F : Int)]] w fun e w' => e = .returned (.int .i64 0) ∧ Below w.heap.size w w' :=
  (rValidate_v N T S F w).mono fun e w' h' => ⟨by rw [h'.1, h.ok], h'.2⟩

set_option maxHeartbeats 8000000 in
set_option maxRecDepth 100000 in
theorem rPanels_v (N T S F q P : Nat) (h : Rot N T S F) (hP : P = F + q) (hP2 : P ≤ 5999) (w : World) : Calls Try.prog 36 #[.agg #[.int .i64 (N : Int), .int .i64 (T : Int), .int .i64 (S : Int), .int .i64 (F : Int)], .int .i64 (P : Int)] w (PanPost w (pan N S T q)) := by
  obtain ⟨i0, hi, hz0, hz1, hz2⟩ := info_parts infoI
  obtain ⟨W1, hW1⟩ : ∃ W, W = w.alloc (.cells #[.int .i64 (N : Int), .int .i64 (T : Int), .int .i64 (S : Int), .int .i64 (F : Int)] 62) := ⟨_, rfl⟩
  obtain ⟨g, hg⟩ : ∃ g, g = w.heap.size := ⟨_, rfl⟩
  have x1 : Rb W1 g N T S F := by rw [hW1, hg]; exact Rb.new _ _ _ _ _
  have b1 : Below w.heap.size w W1 := by rw [hW1]; exact below_new _ _
  have s1 : W1.heap.size = g + 1 := by rw [hW1, hg]; exact World.size_alloc _ _
  have VR := Lib.hid (rValidate_rot N T S F h W1)
  obtain ⟨n1, n2, s1', s2, t1, t2, f2, c2⟩ := h
  obtain ⟨C, hC⟩ : ∃ C, C = N * S := ⟨_, rfl⟩
  have hCi : (N : Int) * (S : Int) = (C : Int) := by rw [hC]; exact (Int.natCast_mul N S).symm
  have HC := Lib.hid hC
  have hC1 : 1 ≤ C := by rw [hC]; exact Nat.mul_pos n1 s1'
  rw [← hC] at t2 c2
  have HX := Lib.hid x1
  have HB1 := Lib.hid b1
  have HS := Lib.hid s1
  have HG := Lib.hid hg
  have p1 : ¬ (P : Int) < (F : Int) := by omega
  have p2 : ¬ 5999 < (P : Int) := by omega
  have p1d : decide ((P : Int) < (F : Int)) = false := by simp; omega
  have p1n : decide (P < F) = false := by simp; omega
  have p2n : decide (5999 < P) = false := by simp; omega
  have p2d : decide (5999 < (P : Int)) = false := by simp; omega
  obtain ⟨k0, k1, k2, k3⟩ := x1.cells
  have HP0 := Lib.hid hP
  have HP5 := Lib.hid hP2
  clear x1 b1 s1 hC hP hP2
  go_enter Try.func36, Try.ntmps36
  go_wp2_with fail
  rw [← hW1]
  try rw [← hg]
  clear hW1 hg
  refine VR.out.mono ?_; rintro e w2 ⟨rfl, b2⟩
  have X2 := Lib.hid (HX.out.below b2)
  have HB2 : Hid (Below w.heap.size w w2) := HB1.out.trans (b2.mono HB1.out.size)
  have hs2 : g + 1 ≤ w2.heap.size := X2.out.lt
  clear k0 k1 k2 k3 b2
  obtain ⟨k0, k1, k2, k3⟩ := X2.out.cells
  have hwC : IntKind.i64.wrap (C : Int) = (C : Int) := IntWalk.i64_in _ (by omega)
  go_wp2_with fail
  clear k0 k1 k2 k3 p1 p2 p1d p2d p1n p2n
  go_loopw [5, 28] (fun s6 s28 wr => ∃ (i n : Nat) (v : Value), i ≤ N ∧ s28 = .int .i64 (i : Int) ∧ v = s6 ∧ Hid (n = ((List.range i).filter (pin N S T q)).length) ∧ Hid (wr.ownsRow (g + 1) 3 1 v n (zl ((List.range i).filter (pin N S T q)))) ∧ Hid (Below (g + 1) w2 wr)) (fun _ s28 _ => N - (intOf s28).toNat)
  case atStart => exact ⟨0, 0, _, by omega, rfl, rfl, rfl, World.ownsRow_nil _ _ _ _, Below.refl _ _⟩
  case round =>
    obtain ⟨i, n, v, hiN, rfl, rfl, hn, hown, hbl⟩ := hrel
    have hxr : Rb wr g N T S F := X2.out.keepB hbl.out (Nat.lt_succ_self g)
    have hszr : g + 1 ≤ wr.heap.size := hxr.lt
    obtain ⟨k0, k1, k2, k3⟩ := hxr.cells
    by_cases hlt : i < N
    · have hlt2 : (i : Int) < (N : Int) := by omega
      obtain ⟨m, hm⟩ : ∃ m, m = i * S := ⟨_, rfl⟩
      have hmi : (i : Int) * (S : Int) = (m : Int) := by rw [hm]; exact (Int.natCast_mul i S).symm
      have hmC : m < C := by rw [hm, HC.out]; exact Nat.mul_lt_mul_of_pos_right hlt s1'
      obtain ⟨x, hx⟩ : ∃ x, x = q + C - m := ⟨_, rfl⟩
      obtain ⟨y, hy⟩ : ∃ y, y = x % C := ⟨_, rfl⟩
      have hpin : Hid (pin N S T q i = decide (y < T)) := by unfold pin Hid; rw [hy, hx, HC.out, hm]
      have e1 : (P : Int) - (F : Int) = (q : Int) := by have := HP0.out; omega
      obtain ⟨z, hz⟩ : ∃ z : Int, z = (q : Int) + (C : Int) := ⟨_, rfl⟩
      have e2 : z - (m : Int) = (x : Int) := by omega
      have e3 : Int.tmod (x : Int) (C : Int) = (y : Int) := by rw [hy]; exact (Int.ofNat_tmod x C).symm
      have hC0 : ¬ (C : Int) = 0 := by omega
      have hC0b : ((C : Int) == 0) = false := by simp; omega
      have hq5 : q ≤ 6000 := by have := HP0.out; have := HP5.out; omega
      have w1 : IntKind.i64.wrap (q : Int) = (q : Int) := IntWalk.i64_in _ (by omega)
      have w2' : IntKind.i64.wrap (m : Int) = (m : Int) := IntWalk.i64_in _ (by omega)
      have w3 : IntKind.i64.wrap z = z := IntWalk.i64_in _ (by omega)
      have w4 : IntKind.i64.wrap (x : Int) = (x : Int) := IntWalk.i64_in _ (by omega)
      have w5 : IntKind.i64.wrap (y : Int) = (y : Int) := IntWalk.i64_in _ (by have : y < C := by rw [hy]; exact Nat.mod_lt _ (by omega)
                                                                               omega)
      have hq6 : (q : Int) ≤ 6000 := by omega
      have hm6 : (m : Int) ≤ 288 := by omega
      have hzz : (q : Int) + (C : Int) = z := hz.symm
      have HN3 : Hid (n ≤ 24) := by
        unfold Hid
        rw [hn.out]
        refine Nat.le_trans (List.length_filter_le _ _) ?_
        rw [List.length_range]; omega
      clear hm hx hy hz hxr
      by_cases hyT : y < T
      · have hyd : decide ((y : Int) < (T : Int)) = true := by simp; omega
        have hyT2 : (y : Int) < (T : Int) := by omega
        have HP : Hid (pin N S T q i = true) := by unfold Hid; rw [hpin.out]; exact decide_eq_true hyT
        clear hpin
        have HON := Lib.hid hown.out
        have HF2 : Hid ((List.range (i + 1)).filter (pin N S T q) = (List.range i).filter (pin N S T q) ++ [i]) := by unfold Hid; rw [pan_take, HP.out]; rfl
        go_wp2_with fail
        go_quiet (fail)
        go_wp2_with (at_builtin; refine wpList_append_own _ rfl _ _ 23 rfl (g + 1) 3 i0 (.int .i64 0) 1 8 Try.underlying23 hi hz0 hz1 hz2 rfl (by omega) _ _ _ rfl ((show World.ownsRow _ _ _ _ _ _ _ from HON.out).alloc _) ⟨wr.heap.size, 0, none⟩ 1 1 [.int .i64 (i : Int)] rfl rfl (one_cell _ _ _) (by intro u hu; simp at hu; rcases hu with rfl; rfl) (by unfold maxLen; have := HN3.out; omega) (by have := HN3.out; omega) (by simp; omega) ?_; intro v3 w3 hown3 hgr3 _; obtain ⟨a3, c3, rfl⟩ := C6v.row_n hown3; have HO3 := Lib.hid hown3; have HG3 := Lib.hid hgr3; clear hown3 hgr3)
        have HN4 : Hid (n + 1 = ((List.range (i + 1)).filter (pin N S T q)).length) := by unfold Hid; rw [HF2.out, List.length_append, ← hn.out]; rfl
        have HO4 : Hid (w3.ownsRow (g + 1) 3 1 (.slice a3 (n + 1) c3) (n + 1) (zl ((List.range (i + 1)).filter (pin N S T q)))) := by unfold Hid; rw [HF2.out, zl_snoc]; exact HO3.out
        have HB4 : Hid (Below (g + 1) w2 w3) := by
          have h1 : Below (g + 1) w2 ((wr.alloc (.cells #[.int .i64 (i : Int)] 3)).drew) := (hbl.out.trans ((below_new wr _).mono hszr)).drew
          first
            | exact h1.grown HG3.out (by show g + 1 ≤ (wr.alloc _).heap.size; rw [World.size_alloc]; omega) (fun k e => (HON.out.lt k e).1)
            | exact (hbl.out.trans ((below_new wr _).mono hszr)).grown HG3.out (by rw [World.size_alloc]; omega) (fun k e => (HON.out.lt k e).1)
            | exact ((hbl.out.trans (show Below (g + 1) wr (wr.drewN _) from ⟨rfl, rfl, rfl, Nat.le_refl _, fun _ _ => rfl⟩)).trans ((below_new _ _).mono hszr)).grown HG3.out (by rw [World.size_alloc]; show g + 1 ≤ wr.heap.size + 1; omega) (fun k e => (HON.out.lt k e).1)
        clear HF2
        go_wp2_with fail
        go_roundw
        case rel => exact ⟨i + 1, n + 1, .slice a3 (n + 1) c3, by omega, by go_num, rfl, HN4, HO4, HB4⟩
        case measure => simp [intOf]; omega
      · have hyd : decide ((y : Int) < (T : Int)) = false := by simp; omega
        have hyT2 : ¬ (y : Int) < (T : Int) := by omega
        have HP : Hid (pin N S T q i = false) := by unfold Hid; rw [hpin.out]; exact decide_eq_false hyT
        have HF2 : Hid ((List.range (i + 1)).filter (pin N S T q) = (List.range i).filter (pin N S T q)) := by unfold Hid; rw [pan_take, HP.out]; simp
        clear hpin
        go_wp2_with fail
        go_quiet (fail)
        go_wp2_with fail
        go_roundw
        case rel => exact ⟨i + 1, n, v, by omega, by go_num, rfl, by rw [HF2.out]; exact hn, by rw [HF2.out]; exact (show World.ownsRow _ _ _ _ _ _ _ from hown.out), hbl.out.trans ⟨rfl, rfl, rfl, Nat.le_refl _, fun _ _ => rfl⟩⟩
        case measure => simp [intOf]; omega
    · obtain rfl : i = N := by omega
      have hlt2 : ¬ (i : Int) < (i : Int) := by omega
      obtain ⟨a9, c9, rfl⟩ : ∃ (a : Option Addr) (c : Nat), v = .slice a n c := by
        rcases hown.out.2 with ⟨rfl, h0⟩ | ⟨g', cap, cur, rfl, _⟩
        · exact ⟨none, 0, by rw [h0]⟩
        · exact ⟨_, _, rfl⟩
      have HBF : Hid (Below w.heap.size w wr) := HB2.out.trans (hbl.out.mono (by rw [← HG.out]; omega))
      have HGW : Hid (w.heap.size ≤ g + 1) := by unfold Hid; rw [← HG.out]; omega
      clear hxr
      go_wp2_with fail
      go_ret
      refine ⟨a9, n, c9, rfl, hn.out, ?_, HBF.out⟩
      exact ⟨hown.out.1, hown.out.2.imp id fun ⟨g', cap, cur, hv, h1, h2⟩ => ⟨g', cap, cur, hv, Nat.le_trans HGW.out h1, h2⟩⟩
end Go.Proofs.Ytghdnnfohllcbaa.S10
/- Layer 10: Panels of both for every rotation and period. -/
namespace Go.Proofs.Ytghdnnfohllcbaa.S10
open Go.RowKit Go.Sort C6

theorem rotE_two (N T S F : Int) : rotE N T S F = 0 ∨ rotE N T S F = 106 := by
  unfold rotE; split
  · exact .inl rfl
  · exact .inr rfl
theorem cells4 (w : World) (N T S F : Int) : let W1 := w.alloc (.cells #[.int .i64 N, .int .i64 T, .int .i64 S, .int .i64 F] 62); W1.heap[w.heap.size]? = some (.cells #[.int .i64 N, .int .i64 T, .int .i64 S, .int .i64 F] 62 (0, 0)) := heap_alloc_new _ _
theorem cells4_at {w : World} {g : Nat} {N T S F : Int} (h : w.heap[g]? = some (.cells #[.int .i64 N, .int .i64 T, .int .i64 S, .int .i64 F] 62 (0, 0))) : w.cell? ⟨g, 0, none⟩ = some (.int .i64 N) ∧ w.cell? ⟨g, 1, none⟩ = some (.int .i64 T) ∧ w.cell? ⟨g, 2, none⟩ = some (.int .i64 S) ∧ w.cell? ⟨g, 3, none⟩ = some (.int .i64 F) := by
  refine ⟨?_, ?_, ?_, ?_⟩ <;> simp [World.cell?, h]

set_option maxHeartbeats 8000000 in
set_option maxRecDepth 100000 in
theorem Panels_none (N T S F P : Int) (h : ¬ (rotE N T S F = 0 ∧ F ≤ P ∧ P ≤ 5999)) (w : World) : Calls Try.prog 35 #[.agg #[.int .i64 N, .int .i64 T, .int .i64 S, .int .i64 F], .int .i64 P] w fun e w' => e = .returned (.slice none 0 0) ∧ Below w.heap.size w w' := by
  obtain ⟨W1, hW1⟩ : ∃ W, W = w.alloc (.cells #[.int .i64 N, .int .i64 T, .int .i64 S, .int .i64 F] 62) := ⟨_, rfl⟩
  obtain ⟨g, hg⟩ : ∃ g, g = w.heap.size := ⟨_, rfl⟩
  have x1 : W1.heap[g]? = some (.cells #[.int .i64 N, .int .i64 T, .int .i64 S, .int .i64 F] 62 (0, 0)) := by rw [hW1, hg]; exact cells4 _ _ _ _ _
  have b1 : Below w.heap.size w W1 := by rw [hW1]; exact below_new _ _
  have VR := Lib.hid (Validate_v N T S F W1)
  have HX := Lib.hid x1
  have HB1 := Lib.hid b1
  have HH := Lib.hid h
  have hlt : g < W1.heap.size := (Array.getElem?_eq_some_iff.1 x1).1
  obtain ⟨k0, k1, k2, k3⟩ := cells4_at x1
  clear x1 b1 h
  go_enter Try.func35, Try.ntmps35
  go_wp2_with fail
  rw [← hW1]
  try rw [← hg]
  clear hW1 hg
  refine VR.out.mono ?_; rintro e w2 ⟨rfl, b2⟩
  have X2 := Lib.hid ((b2.block g hlt).trans HX.out)
  have HB2 : Hid (Below w.heap.size w w2) := HB1.out.trans (b2.mono HB1.out.size)
  clear k0 k1 k2 k3 b2
  obtain ⟨k0, k1, k2, k3⟩ := cells4_at X2.out
  rcases rotE_two N T S F with hE | hE
  · rw [hE]
    by_cases hP : P < F
    · have dP := dt hP
      go_wp2_with fail
      go_ret
      exact ⟨rfl, HB2.out⟩
    · have dP := df hP
      have h5 : 5999 < P := by
        refine Classical.byContradiction fun h5 => HH.out ⟨hE, by omega, by omega⟩
      have d5 := dt h5
      go_wp2_with fail
      go_ret
      exact ⟨rfl, HB2.out⟩
  · rw [hE]
    go_wp2_with fail
    go_ret
    exact ⟨rfl, HB2.out⟩

set_option maxHeartbeats 8000000 in
set_option maxRecDepth 100000 in
theorem rPanels_none (N T S F P : Int) (h : ¬ (rotE N T S F = 0 ∧ F ≤ P ∧ P ≤ 5999)) (w : World) : Calls Try.prog 36 #[.agg #[.int .i64 N, .int .i64 T, .int .i64 S, .int .i64 F], .int .i64 P] w fun e w' => e = .returned (.slice none 0 0) ∧ Below w.heap.size w w' := by
  obtain ⟨W1, hW1⟩ : ∃ W, W = w.alloc (.cells #[.int .i64 N, .int .i64 T, .int .i64 S, .int .i64 F] 62) := ⟨_, rfl⟩
  obtain ⟨g, hg⟩ : ∃ g, g = w.heap.size := ⟨_, rfl⟩
  have x1 : W1.heap[g]? = some (.cells #[.int .i64 N, .int .i64 T, .int .i64 S, .int .i64 F] 62 (0, 0)) := by rw [hW1, hg]; exact cells4 _ _ _ _ _
  have b1 : Below w.heap.size w W1 := by rw [hW1]; exact below_new _ _
  have VR := Lib.hid (rValidate_v N T S F W1)
  have HX := Lib.hid x1
  have HB1 := Lib.hid b1
  have HH := Lib.hid h
  have hlt : g < W1.heap.size := (Array.getElem?_eq_some_iff.1 x1).1
  obtain ⟨k0, k1, k2, k3⟩ := cells4_at x1
  clear x1 b1 h
  go_enter Try.func36, Try.ntmps36
  go_wp2_with fail
  rw [← hW1]
  try rw [← hg]
  clear hW1 hg
  refine VR.out.mono ?_; rintro e w2 ⟨rfl, b2⟩
  have X2 := Lib.hid ((b2.block g hlt).trans HX.out)
  have HB2 : Hid (Below w.heap.size w w2) := HB1.out.trans (b2.mono HB1.out.size)
  clear k0 k1 k2 k3 b2
  obtain ⟨k0, k1, k2, k3⟩ := cells4_at X2.out
  rcases rotE_two N T S F with hE | hE
  · rw [hE]
    by_cases hP : P < F
    · have dP := dt hP
      go_wp2_with fail
      go_ret
      exact ⟨rfl, HB2.out⟩
    · have dP := df hP
      have h5 : 5999 < P := by
        refine Classical.byContradiction fun h5 => HH.out ⟨hE, by omega, by omega⟩
      have d5 := dt h5
      go_wp2_with fail
      go_ret
      exact ⟨rfl, HB2.out⟩
  · rw [hE]
    go_wp2_with fail
    go_ret
    exact ⟨rfl, HB2.out⟩

/-- the panels in the sample in a period -/
def panL (N T S F P : Int) : List Nat := if rotE N T S F = 0 ∧ F ≤ P ∧ P ≤ 5999 then pan N.toNat S.toNat T.toNat (P - F).toNat else []
theorem nat_of {a : Int} (h : 0 ≤ a) : ∃ n : Nat, a = (n : Int) := ⟨a.toNat, by omega⟩
theorem panL_len (N T S F P : Int) : (panL N T S F P).length ≤ 24 ∧ ∀ i, i ∈ panL N T S F P → i < 24 := by
  unfold panL
  split
  · rename_i h
    have h1 : N ≤ 24 := by
      refine Classical.byContradiction fun hc => ?_
      have := h.1
      rw [rotE_bad (by omega)] at this
      cases this
    refine ⟨?_, fun i hi => by have := pan_mem hi; omega⟩
    refine Nat.le_trans (List.length_filter_le _ _) ?_
    rw [List.length_range]; omega
  · exact ⟨by simp, by simp⟩
theorem rot_of {N T S F : Int} (h : rotE N T S F = 0) : ∃ n t s f : Nat, N = n ∧ T = t ∧ S = s ∧ F = f ∧ Rot n t s f := by
  have h1 : 1 ≤ N ∧ N ≤ 24 ∧ 1 ≤ S ∧ S ≤ 12 ∧ 1 ≤ T ∧ T ≤ N * S ∧ 0 ≤ F ∧ F ≤ 5999 := Classical.byContradiction fun hc => by rw [rotE_bad hc] at h; cases h
  obtain ⟨n, rfl⟩ := nat_of (a := N) (by omega)
  obtain ⟨s, rfl⟩ := nat_of (a := S) (by omega)
  obtain ⟨t, rfl⟩ := nat_of (a := T) (by omega)
  obtain ⟨f, rfl⟩ := nat_of (a := F) (by omega)
  have hc := cyc_le (N := n) (S := s) (by omega) (by omega) (by omega) (by omega)
  rw [← Int.natCast_mul] at hc h1
  exact ⟨n, t, s, f, rfl, rfl, rfl, rfl, ⟨by omega, by omega, by omega, by omega, by omega, by omega, by omega, by omega⟩⟩
theorem none_post {w w' : World} (b : Below w.heap.size w w') {N T S F P : Int} (h : ¬ (rotE N T S F = 0 ∧ F ≤ P ∧ P ≤ 5999)) : PanPost w (panL N T S F P) (.returned (.slice none 0 0)) w' := by
  unfold panL
  rw [if_neg h]
  exact ⟨none, 0, 0, rfl, rfl, World.ownsRow_nil _ _ _ _, b⟩
theorem Panels_any (N T S F P : Int) (w : World) : Calls Try.prog 35 #[.agg #[.int .i64 N, .int .i64 T, .int .i64 S, .int .i64 F], .int .i64 P] w (PanPost w (panL N T S F P)) := by
  by_cases h : rotE N T S F = 0 ∧ F ≤ P ∧ P ≤ 5999
  · obtain ⟨n, t, s, f, rfl, rfl, rfl, rfl, hr⟩ := rot_of h.1
    obtain ⟨p, rfl⟩ := nat_of (a := P) (by omega)
    have := Panels_v n t s f (p - f) p hr (by omega) (by omega) w
    unfold panL
    rw [if_pos h, show ((p : Int) - (f : Int)).toNat = p - f by omega]
    exact this
  · exact (Panels_none N T S F P h w).mono fun e w' h' => by rw [h'.1]; exact none_post h'.2 h
theorem rPanels_any (N T S F P : Int) (w : World) : Calls Try.prog 36 #[.agg #[.int .i64 N, .int .i64 T, .int .i64 S, .int .i64 F], .int .i64 P] w (PanPost w (panL N T S F P)) := by
  by_cases h : rotE N T S F = 0 ∧ F ≤ P ∧ P ≤ 5999
  · obtain ⟨n, t, s, f, rfl, rfl, rfl, rfl, hr⟩ := rot_of h.1
    obtain ⟨p, rfl⟩ := nat_of (a := P) (by omega)
    have := rPanels_v n t s f (p - f) p hr (by omega) (by omega) w
    unfold panL
    rw [if_pos h, show ((p : Int) - (f : Int)).toNat = p - f by omega]
    exact this
  · exact (rPanels_none N T S F P h w).mono fun e w' h' => by rw [h'.1]; exact none_post h'.2 h
end Go.Proofs.Ytghdnnfohllcbaa.S10
/- Layer 10: the reference's Shared. -/
namespace Go.Proofs.Ytghdnnfohllcbaa.S10
open Go.RowKit Go.Sort C6

def IPost (w : World) (zs : List Int) (e : Ending) (w' : World) : Prop := ∃ (a : Option Addr) (n c : Nat), e = .returned (.slice a n c) ∧ n = zs.length ∧ w'.ownsRow w.heap.size 3 1 (.slice a n c) n (intz zs) ∧ Below w.heap.size w w'
def panI (N T S F P : Int) : List Int := (panL N T S F P).map fun i : Nat => ((i : Nat) : Int)
theorem ipost_of {w : World} {l : List Nat} {e : Ending} {w' : World} (h : PanPost w l e w') : IPost w (l.map fun i : Nat => ((i : Nat) : Int)) e w' := by
  obtain ⟨a, n, c, rfl, hn, hr, hb⟩ := h
  exact ⟨a, n, c, rfl, by simpa using hn, by rw [← zl_intz]; exact hr, hb⟩
theorem Panels_i (N T S F P : Int) (w : World) : Calls Try.prog 35 #[.agg #[.int .i64 N, .int .i64 T, .int .i64 S, .int .i64 F], .int .i64 P] w (IPost w (panI N T S F P)) := (Panels_any N T S F P w).mono fun _ _ h => ipost_of h
theorem rPanels_i (N T S F P : Int) (w : World) : Calls Try.prog 36 #[.agg #[.int .i64 N, .int .i64 T, .int .i64 S, .int .i64 F], .int .i64 P] w (IPost w (panI N T S F P)) := (rPanels_any N T S F P w).mono fun _ _ h => ipost_of h
theorem panI_len (N T S F P : Int) : (panI N T S F P).length ≤ 24 := by unfold panI; rw [List.length_map]; exact (panL_len N T S F P).1
theorem nodup_cast {l : List Nat} (h : l.Nodup) : (l.map fun i : Nat => ((i : Nat) : Int)).Nodup := by
  induction l with
  | nil => exact .nil
  | cons x l ih =>
    rw [List.map_cons, List.nodup_cons]
    rw [List.nodup_cons] at h
    refine ⟨fun hm => ?_, ih h.2⟩
    obtain ⟨y, hy, e⟩ := List.mem_map.1 hm
    exact h.1 (by rwa [show x = y by omega])
theorem panI_nodup (N T S F P : Int) : (panI N T S F P).Nodup := by
  unfold panI panL
  refine nodup_cast ?_
  split
  · unfold pan
    exact List.Nodup.sublist List.filter_sublist List.nodup_range
  · exact .nil
/-- the panels of both lists, in the first one's order -/
def both (l k : List Int) : List Int := l.filter fun p => k.contains p
theorem both_take {l k : List Int} {i : Nat} (hi : i < l.length) : both (l.take (i + 1)) k = both (l.take i) k ++ (bif k.contains (l.getD i 0) then [l.getD i 0] else []) := by
  unfold both
  rw [List.take_succ_eq_append_getElem hi, List.filter_append]
  have e : l.getD i 0 = l[i] := by simp [List.getD, hi]
  rw [e]
  cases h : k.contains l[i] <;> simp only [List.filter_cons, List.filter_nil, h, cond_true, cond_false] <;> rfl
theorem cont_take {k : List Int} {j : Nat} (hj : j < k.length) (p : Int) : (k.take (j + 1)).contains p = ((k.take j).contains p || p == k.getD j 0) := by
  have e : k.getD j 0 = k[j] := by simp [List.getD, hj]
  rw [List.take_succ_eq_append_getElem hj, List.contains_append, e]
  simp only [List.contains_cons, List.contains_nil, Bool.or_false]
theorem cont_new {k : List Int} (h : k.Nodup) {j : Nat} (hj : j < k.length) : (k.take j).contains (k.getD j 0) = false := by
  have e : k.getD j 0 = k[j] := by simp [List.getD, hj]
  rw [e]
  apply Bool.eq_false_iff.2
  intro hc
  rw [List.contains_iff_mem] at hc
  obtain ⟨i, hi, e2⟩ := List.mem_iff_getElem.1 hc
  rw [List.length_take] at hi
  rw [List.getElem_take] at e2
  have := (List.getElem_inj h).1 e2
  omega
/-- what has been found when i panels and j of the others have been looked at -/
def sofar (l k : List Int) (i j : Nat) : List Int := both (l.take i) k ++ (bif (k.take j).contains (l.getD i 0) then [l.getD i 0] else [])
theorem sofar_zero (l k : List Int) (i : Nat) : sofar l k i 0 = both (l.take i) k := by simp [sofar]
theorem sofar_end {l k : List Int} {i : Nat} (hi : i < l.length) : sofar l k i k.length = both (l.take (i + 1)) k := by rw [both_take hi]; simp [sofar]
theorem sofar_len (l k : List Int) (i j : Nat) : (sofar l k i j).length ≤ l.length + 1 := by
  unfold sofar
  rw [List.length_append]
  have h1 : (both (l.take i) k).length ≤ l.length := Nat.le_trans (List.length_filter_le _ _) (by simp; omega)
  have h2 : (bif (k.take j).contains (l.getD i 0) then [l.getD i 0] else []).length ≤ 1 := by cases (k.take j).contains (l.getD i 0) <;> simp
  omega
theorem intz_snoc (l : List Int) (x : Int) : intz (l ++ [x]) = intz l ++ [.int .i64 x] := by simp [intz]
theorem intz_at {w : World} {base n c : Nat} {a : Option Addr} {t : TypeId} {l : List Int} (h : w.ownsRow base t 1 (.slice a n c) n (intz l)) (hn : n = l.length) {i : Nat} (hi : i < n) : ∃ g, a = some ⟨g, 0, none⟩ ∧ base ≤ g ∧ w.cell? ⟨g, i, none⟩ = some (.int .i64 (l.getD i 0)) := by
  rcases h.2 with ⟨e0, h0⟩ | ⟨g, c', cur, e0, hb, _⟩
  · omega
  · have ea : a = some ⟨g, 0, none⟩ := by injection e0
    subst ea
    refine ⟨g, rfl, hb, (h.cellAt i (by omega)).trans ?_⟩
    have : i < l.length := by omega
    simp [intz, List.getD, this]

set_option maxHeartbeats 8000000 in
set_option maxRecDepth 100000 in
theorem rShared_i (N T S F P Q : Int) (w : World) : Calls Try.prog 38 #[.agg #[.int .i64 N, .int .i64 T, .int .i64 S, .int .i64 F], .int .i64 P, .int .i64 Q] w (IPost w (both (panI N T S F P) (panI N T S F Q))) := by
  obtain ⟨i0, hi, hz0, hz1, hz2⟩ := info_parts infoI
  obtain ⟨W1, hW1⟩ : ∃ W, W = w.alloc (.cells #[.int .i64 N, .int .i64 T, .int .i64 S, .int .i64 F] 62) := ⟨_, rfl⟩
  obtain ⟨g, hg⟩ : ∃ g, g = w.heap.size := ⟨_, rfl⟩
  have x1 : W1.heap[g]? = some (.cells #[.int .i64 N, .int .i64 T, .int .i64 S, .int .i64 F] 62 (0, 0)) := by rw [hW1, hg]; exact cells4 _ _ _ _ _
  have HB1 := Lib.hid (show Below w.heap.size w W1 by rw [hW1]; exact below_new _ _)
  have HS1 : Hid (W1.heap.size = w.heap.size + 1) := by unfold Hid; rw [hW1]; exact World.size_alloc _ _
  have PV := Lib.hid (rPanels_i N T S F P W1)
  have PQ := Lib.hid (rPanels_i N T S F Q)
  have HX := Lib.hid x1
  obtain ⟨l, hl⟩ : ∃ l, l = panI N T S F P := ⟨_, rfl⟩
  obtain ⟨k, hk⟩ : ∃ k, k = panI N T S F Q := ⟨_, rfl⟩
  have HL24 : Hid (l.length ≤ 24) := by unfold Hid; rw [hl]; exact panI_len _ _ _ _ _
  have HK24 : Hid (k.length ≤ 24) := by unfold Hid; rw [hk]; exact panI_len _ _ _ _ _
  have HND : Hid k.Nodup := by unfold Hid; rw [hk]; exact panI_nodup _ _ _ _ _
  rw [← hl] at PV ⊢
  rw [← hk] at PQ ⊢
  obtain ⟨k0, k1, k2, k3⟩ := cells4_at x1
  clear hl hk x1
  go_enter Try.func38, Try.ntmps38
  go_wp2_with fail
  rw [← hW1]
  try rw [← hg]
  clear hW1
  refine PV.out.mono ?_; rintro e w2 ⟨a1, n1, c1, rfl, hn1, hrow1, b2⟩
  have X2 : Hid (w2.heap[g]? = some (.cells #[.int .i64 N, .int .i64 T, .int .i64 S, .int .i64 F] 62 (0, 0))) := (b2.block g (Array.getElem?_eq_some_iff.1 HX.out).1).trans HX.out
  have HB2 : Hid (Below w.heap.size w w2) := HB1.out.trans (b2.mono HB1.out.size)
  have HR1 := Lib.hid hrow1
  have HN1 := Lib.hid hn1
  obtain ⟨B, hB⟩ : ∃ B, B = w2.heap.size := ⟨_, rfl⟩
  have HBB := Lib.hid hB
  have HgB : Hid (g < B) := by unfold Hid; rw [hB]; exact (Array.getElem?_eq_some_iff.1 X2.out).1
  have hn24 : n1 ≤ 24 := by have := HL24.out; omega
  clear hrow1 b2 k0 k1 k2 k3 hn1 hB PV HX hg
  go_wp2_with fail
  go_loopw [7, 16] (fun s7 s16 wr => ∃ (i n : Nat) (v : Value), i ≤ n1 ∧ s16 = .int .i64 (i : Int) ∧ v = s7 ∧ Hid (n = (both (l.take i) k).length) ∧ Hid (wr.ownsRow B 3 1 v n (intz (both (l.take i) k))) ∧ Hid (Below B w2 wr)) (fun _ s16 _ => n1 - (intOf s16).toNat)
  case atStart => exact ⟨0, 0, _, by omega, rfl, rfl, rfl, World.ownsRow_nil _ _ _ _, Below.refl _ _⟩
  case round =>
    obtain ⟨i, n, v, hiN, rfl, rfl, hn, hown, hbl⟩ := hrel
    by_cases hlt : i < n1
    · have hlt2 : (i : Int) < (n1 : Int) := by omega
      obtain ⟨g1, rfl, hg1, hc1⟩ := intz_at (row_below HR1.out (by rw [← HBB.out]; exact hbl.out)) HN1.out hlt
      have HXR : Hid (wr.heap[g]? = some (.cells #[.int .i64 N, .int .i64 T, .int .i64 S, .int .i64 F] 62 (0, 0))) := (hbl.out.block g HgB.out).trans X2.out
      obtain ⟨k0, k1, k2, k3⟩ := cells4_at HXR.out
      obtain ⟨p, hp⟩ : ∃ p, p = l.getD i 0 := ⟨_, rfl⟩
      rw [← hp] at hc1
      have HP := Lib.hid hp
      have PQr := Lib.hid (PQ.out wr)
      have hil : i < l.length := by have := HN1.out; omega
      have HIL := Lib.hid hil
      clear hp hil
      go_wp2_with fail
      refine PQr.out.mono ?_; rintro e w3 ⟨a2, n2, c2, rfl, hn2, hrow2, b3⟩
      have HO3 := Lib.hid (row_below hown.out b3)
      have HN2 := Lib.hid hn2
      have HBwr : Hid (B ≤ wr.heap.size) := by unfold Hid; have := hbl.out.size; have := HBB.out; omega
      have HB3 : Hid (Below B w2 w3) := hbl.out.trans (b3.mono HBwr.out)
      have hn224 : n2 ≤ 24 := by have := HK24.out; omega
      obtain ⟨A, hA⟩ : ∃ A, A = wr.heap.size := ⟨_, rfl⟩
      rw [← hA] at hrow2 HBwr
      have HLT : Hid (∀ b, v.ownBlock = some b → b < A) := fun b e => by rw [hA]; exact (hown.out.lt b e).2
      have HR2 := Lib.hid hrow2
      clear k0 k1 k2 k3 hc1 hrow2 hn2 b3 PQr hown hA HXR
      go_wp2_with fail
      go_loopw [7, 24] (fun s7 s24 wq => ∃ (j n' : Nat) (v' : Value), j ≤ n2 ∧ s24 = .int .i64 (j : Int) ∧ v' = s7 ∧ Hid (n' = (sofar l k i j).length) ∧ Hid (wq.ownsRow B 3 1 v' n' (intz (sofar l k i j))) ∧ Hid (wq.ownsRow A 3 1 (.slice a2 n2 c2) n2 (intz k)) ∧ Hid ((k.take j).contains p = false → v' = v) ∧ Hid (Below B w2 wq)) (fun _ s24 _ => n2 - (intOf s24).toNat)
      case atStart => exact ⟨0, n, v, by omega, rfl, rfl, by rw [sofar_zero]; exact hn, by rw [sofar_zero]; exact HO3.out, HR2.out, fun _ => rfl, HB3.out⟩
      case round =>
        obtain ⟨j, n', v', hjN, rfl, rfl, hn', hown', hrow, hvv, hbq⟩ := hrel
        by_cases hjlt : j < n2
        · have hjlt2 : (j : Int) < (n2 : Int) := by omega
          obtain ⟨g2, rfl, hg2, hc2⟩ := intz_at hrow.out HN2.out hjlt
          obtain ⟨q, hq⟩ : ∃ q, q = k.getD j 0 := ⟨_, rfl⟩
          rw [← hq] at hc2
          have HQ := Lib.hid hq
          have hjk : j < k.length := by have := HN2.out; omega
          have HCT : Hid ((k.take (j + 1)).contains p = ((k.take j).contains p || p == q)) := by unfold Hid; rw [hq]; exact cont_take hjk p
          have HCN : Hid ((k.take j).contains q = false) := by unfold Hid; rw [hq]; exact cont_new HND.out hjk
          clear hq hjk
          by_cases hpq : p = q
          · subst hpq
            have hb : (p == p) = true := beq_self_eq_true p
            obtain rfl : v' = v := hvv.out HCN.out
            have HSO : Hid (sofar l k i (j + 1) = sofar l k i j ++ [p]) := by
              unfold Hid sofar
              rw [← HP.out, HCT.out, HCN.out, hb]
              simp
            have HON := Lib.hid hown'.out
            have HN25 : Hid (n' ≤ 25) := by unfold Hid; rw [hn'.out]; have := sofar_len l k i j; have := HL24.out; omega
            have HSQ : Hid (B ≤ wr.heap.size) := by unfold Hid; have := hbq.out.size; have := HBB.out; omega
            have HNE : Hid (some g2 ≠ v'.ownBlock) := fun e => by have := HLT.out g2 e.symm; omega
            clear hown' hvv hg2
            go_wp2_with (at_builtin; refine wpList_append_own _ rfl _ _ 23 rfl B 3 i0 (.int .i64 0) 1 8 Try.underlying23 hi hz0 hz1 hz2 rfl (by omega) _ _ _ rfl (HON.out.alloc _) ⟨wr.heap.size, 0, none⟩ 1 1 [.int .i64 p] rfl rfl (one_cell _ _ _) (by intro u hu; simp at hu; rcases hu with rfl; rfl) (by unfold maxLen; have := HN25.out; omega) (by have := HN25.out; omega) (by have := HSQ.out; simp; omega) ?_; intro v3 w3 hown3 hgr3 _; obtain ⟨a3, c3, rfl⟩ := C6v.row_n hown3; have HO3 := Lib.hid hown3; have HG3 := Lib.hid hgr3; clear hown3 hgr3)
            have HN4 : Hid (n' + 1 = (sofar l k i (j + 1)).length) := by unfold Hid; rw [HSO.out, List.length_append, ← hn'.out]; rfl
            have HO4 : Hid (w3.ownsRow B 3 1 (.slice a3 (n' + 1) c3) (n' + 1) (intz (sofar l k i (j + 1)))) := by unfold Hid; rw [HSO.out, intz_snoc]; exact HO3.out
            have HB4 : Hid (Below B w2 w3) := (hbq.out.trans ((below_new wr _).mono HSQ.out)).grown HG3.out (by rw [World.size_alloc]; have := HSQ.out; omega) (fun k e => (HON.out.lt k e).1)
            have HR4 : Hid (w3.ownsRow A 3 1 (.slice (some ⟨g2, 0, none⟩) n2 c2) n2 (intz k)) := (hrow.out.alloc _).kept HG3.out (.inr HNE.out)
            have HV4 : Hid ((k.take (j + 1)).contains p = false → Value.slice a3 (n' + 1) c3 = v') := fun e => by rw [HCT.out, hb, Bool.or_true] at e; cases e
            clear HSO HNE HON hc2 hbq hrow
            go_wp2_with fail
            go_roundw
            case rel => exact ⟨j + 1, n' + 1, .slice a3 (n' + 1) c3, by omega, by go_num, rfl, HN4, HO4, HR4, HV4, HB4⟩
            case measure => simp [intOf]; omega
          · have hb : (p == q) = false := beq_eq_false_iff_ne.2 hpq
            have HSO : Hid (sofar l k i (j + 1) = sofar l k i j) := by
              unfold Hid sofar
              rw [← HP.out, HCT.out, hb, Bool.or_false]
            have HV4 : Hid ((k.take (j + 1)).contains p = false → v' = v) := fun e => hvv.out (by rw [HCT.out, hb, Bool.or_false] at e; exact e)
            clear hvv hg2
            go_wp2_with fail
            go_roundw
            case rel => exact ⟨j + 1, n', v', by omega, by go_num, rfl, by rw [HSO.out]; exact hn', by rw [HSO.out]; exact hown', hrow, HV4, hbq⟩
            case measure => simp [intOf]; omega
        · obtain rfl : j = n2 := by omega
          have hjlt2 : ¬ (j : Int) < (j : Int) := by omega
          have HE : Hid (sofar l k i j = both (l.take (i + 1)) k) := by unfold Hid; rw [HN2.out]; exact sofar_end HIL.out
          rw [HE.out] at hn' hown'
          clear hvv hrow
          go_wp2_with fail
          go_roundw
          case rel => exact ⟨i + 1, n', v', by omega, by go_num, rfl, hn', hown', hbq⟩
          case measure => simp [intOf]; omega
    · obtain rfl : i = n1 := by omega
      have hlt2 : ¬ (i : Int) < (i : Int) := by omega
      have HT : Hid (both (l.take i) k = both l k) := by unfold Hid; rw [HN1.out, List.take_length]
      obtain ⟨a9, c9, rfl⟩ := C6v.row_n hown.out
      rw [HT.out] at hn hown
      have HBW : Hid (w.heap.size ≤ B) := by unfold Hid; rw [HBB.out]; exact HB2.out.size
      have HBF : Hid (Below w.heap.size w wr) := HB2.out.trans (hbl.out.mono HBW.out)
      go_wp2_with fail
      go_ret
      exact ⟨a9, n, c9, rfl, hn.out, row_lift hown.out HBW.out, HBF.out⟩
end Go.Proofs.Ytghdnnfohllcbaa.S10
/- Layer 10: Shared, with the library's DeleteFunc and its closure. -/
namespace Go.Proofs
open Go.Shelf
shelf_lay_g SlLaysH.n10 Slgf 10 at Try 70 as Try.laysDel
end Go.Proofs
namespace Go.Proofs.Ytghdnnfohllcbaa.S10
open Go.RowKit Go.Sort C6

theorem Contains_i (ao : Option Addr) (cap : Nat) (k : List Int) (x : Int) (w : World) (h : RdZ w ao cap k) :
    Calls Try.prog 72 #[.slice ao k.length cap, .int .i64 x] w fun e w' => e = .returned (.bool (k.contains x)) ∧ w' = w := by
  by_cases h0 : k = []
  · subst h0
    exact Try.slices_Contains_int_empty ao cap x w
  · obtain ⟨b, o, rfl, _⟩ := RdV.atZ h (i := 0) (List.length_pos_iff.2 h0)
    have := Try.slices_Contains_int b o k.length cap k x w (Nat.le_refl _) (by have h1 := h.1; have h2 := h.2.1; rw [intz_length] at h1; omega) (fun j hj => by
      obtain ⟨b', o', e, hc⟩ := RdV.atZ h hj
      cases e
      exact hc)
    rw [List.take_length] at this
    exact this

set_option maxHeartbeats 4000000 in
theorem closure_v (g : Nat) (ao : Option Addr) (cap n : Nat) (k : List Int) (x : Int) (w : World) (hn : n = k.length) (hc : w.cell? ⟨g, 0, none⟩ = some (.slice ao n cap)) (h : RdZ w ao cap k) :
    FnGives Try.prog 71 #[.pointer (some ⟨g, 0, none⟩)] #[.int .i64 x] (.bool (!k.contains x)) w := by
  have CI := Lib.hid (Contains_i ao cap k x w h)
  rw [← hn] at CI
  obtain ⟨b, hb⟩ : ∃ b, b = k.contains x := ⟨_, rfl⟩
  rw [← hb] at CI ⊢
  clear h hb hn
  show Calls Try.prog 71 #[.int .i64 x, .pointer (some ⟨g, 0, none⟩)] w _
  go_enter Try.func71, Try.ntmps71
  go_wp2_with (go_at_call 72; refine CI.out.mono ?_; rintro e w' ⟨rfl, rfl⟩)
  go_ret
  exact ⟨rfl, 0, rfl⟩
end Go.Proofs.Ytghdnnfohllcbaa.S10
/- Layer 10: Shared. -/
namespace Go.Proofs.Ytghdnnfohllcbaa.S10
open Go.RowKit Go.Sort C6

theorem grow_none (w : World) : grow w #[] = w := by cases w; simp [grow]
theorem row_cut {w : World} {base n : Nat} {e : TypeId} {g cap : Nat} {xs : List Value} (h : w.ownsRow base e 1 (.slice (some ⟨g, 0, none⟩) n cap) n xs) {k : Nat} (hk : k ≤ n) : w.ownsRow base e 1 (.slice (some ⟨g, 0, none⟩) k cap) k (xs.take k) := by
  have hlen : xs.length = n := by have := h.1; omega
  rcases h.2 with ⟨e, _⟩ | ⟨g', cap', cur, e, hb, hg, hn, hc, hs, ht⟩
  · cases e
  · cases e
    refine ⟨by rw [List.length_take]; omega, .inr ⟨g, cap, cur, rfl, hb, hg, by omega, hc, hs, ?_⟩⟩
    rw [← ht, List.take_take]
    congr 1
    omega
theorem keep_both (l k : List Int) : (l.filter fun x => !(!k.contains x)) = both l k := by
  unfold both
  congr 1
  funext x
  rw [Bool.not_not]

set_option maxHeartbeats 4000000 in
/-- DeleteFunc of nothing -/
theorem del_none (fv : Value) (c : Nat) (w : World) : Calls Try.prog 70 #[.slice none 0 c, fv] w fun e w' => e = .returned (.slice none 0 c) ∧ w' = w := by
  have IF := AnyE.slices_IndexFunc_empty (P := Try.prog) { Try.laysDel with } none c fv w
  change Calls Try.prog 104 _ _ _ at IF
  have HI := Lib.hid IF
  clear IF
  go_enter Try.func70, Try.ntmps70
  go_wp2_with (go_at_call 104; refine HI.out.mono ?_; rintro e w' ⟨rfl, rfl⟩)
  go_ret
  exact ⟨rfl, rfl⟩

/-- what the closure reads: the others' box and their row, in blocks other than the row's that is cut -/
structure Oth (w : World) (g : Nat) (a : Option Addr) (c n : Nat) (k : List Int) : Prop where
  len : n = k.length
  cell : w.cell? ⟨g, 0, none⟩ = some (.slice a n c)
  lt : g < w.heap.size
  row : w.ownsRow 0 3 1 (.slice a n c) n (intz k)
theorem Oth.gb {w w' : World} {g c n : Nat} {a : Option Addr} {k : List Int} (h : Oth w g a c n k) {r : Option Nat} (b : w.grownBy w' r) (h1 : r ≠ some g) (h2 : (Value.slice a n c).ownBlock = none ∨ (Value.slice a n c).ownBlock ≠ r) : Oth w' g a c n k :=
  ⟨h.len, by
    have e := b.block g h.lt (fun e => h1 e.symm)
    have := h.cell
    simpa [World.cell?, e] using this, Nat.lt_of_lt_of_le h.lt b.size, h.row.kept b h2⟩
theorem Oth.below {w w' : World} {g c n : Nat} {a : Option Addr} {k : List Int} (h : Oth w g a c n k) (b : Below w.heap.size w w') : Oth w' g a c n k :=
  h.gb (r := none) ⟨b.os, b.tape, b.output, b.size, fun k hk _ => b.block k hk⟩ (by simp) (by cases hv : (Value.slice a n c).ownBlock <;> simp)
theorem Oth.gives {w : World} {g c n : Nat} {a : Option Addr} {k : List Int} (h : Oth w g a c n k) (x : Int) : FnGives Try.prog 71 #[.pointer (some ⟨g, 0, none⟩)] #[.int .i64 x] (.bool (!k.contains x)) w :=
  closure_v g a c n k x w h.len h.cell (rdz_row h.len.symm h.row)

set_option maxHeartbeats 4000000 in
theorem del_v {base n c : Nat} {a : Option Addr} {l : List Int} (g cO nO : Nat) (aO : Option Addr) (k : List Int) (w : World) (h : w.ownsRow base 3 1 (.slice a n c) n (intz l)) (hn : n = l.length) (hs : n ≤ 1000)
    (hO : Oth w g aO cO nO k) (h1 : (Value.slice a n c).ownBlock ≠ some g) (h2 : (Value.slice aO nO cO).ownBlock = none ∨ (Value.slice aO nO cO).ownBlock ≠ (Value.slice a n c).ownBlock) :
    Calls Try.prog 70 #[.slice a n c, .func (.func 71) #[] #[.pointer (some ⟨g, 0, none⟩)]] w fun e w' => ∃ m : Nat, e = .returned (.slice a m c) ∧ m = (both l k).length ∧ w'.ownsRow base 3 1 (.slice a m c) m (intz (both l k)) ∧ w.grownBy w' (Value.ownBlock (.slice a n c)) := by
  rcases h.2 with ⟨e, h0⟩ | ⟨b, cap, cur, e, hb, hg, hnc, hc, hcs, ht⟩
  · cases e
    refine (del_none _ 0 w).mono ?_
    rintro e w' ⟨rfl, rfl⟩
    obtain rfl : l = [] := List.eq_nil_of_length_eq_zero hn.symm
    exact ⟨0, rfl, rfl, by simpa [both] using h, ⟨rfl, rfl, rfl, Nat.le_refl _, fun _ _ _ => rfl⟩⟩
  · cases e
    have eg : ∀ args w, (callFunc 71 args).run Try.prog w = .ok (.enter 71 args) w := enters_of Try.func71 (by kernel_rfl) rfl
    have hH := holds_of_blockI (ss := l) hg (by rw [← hn]; simpa [intz] using ht)
    have hle : (both l k).length ≤ l.length := List.length_filter_le _ _
    have gA : ∀ (q : Nat) (os : Array Obj) (d : Array Int), w.grownBy (grow (putRow (Value.int .i64) (Sort.ahead w q) b 0 d) os) (some b) := fun q os d => grownBy_sortedI d
    have hc1 := AnyE.slices_DeleteFunc Try.laysDel (Value.int .i64) (fun _ => rfl) (fun x => !k.contains x) 71 #[.pointer (some ⟨g, 0, none⟩)] eg 0 Try.zeroValue3 b 0 c l.toArray w
      (fun W x hb' => (hO.below hb').gives x)
      (fun q os dk x _ => (hO.gb (gA q os dk) h1 h2).gives x)
      hH (by simp; omega) (by simp; omega)
    change Calls Try.prog 70 _ _ _ at hc1
    rw [show l.toArray.toList = l by simp, keep_both, show l.toArray.size = n by simp [hn]] at hc1
    refine hc1.mono ?_
    rintro e w' ⟨rfl, q, rfl⟩
    have hts : (both l k ++ List.replicate (n - (both l k).length) 0).length = l.length := by rw [List.length_append, List.length_replicate]; omega
    have r := ownsRow_sortedI (n := q) (os := #[]) (ss := l) (ts := both l k ++ List.replicate (n - (both l k).length) 0) hts hb hg (by omega) hc (by omega)
    have gg := gA q #[] (both l k ++ List.replicate (n - (both l k).length) 0).toArray
    rw [grow_none] at r gg
    rw [← hn] at r
    have r2 := row_cut r (k := (both l k).length) (by omega)
    rw [← List.map_take, List.take_left'] at r2
    · exact ⟨_, rfl, rfl, r2, gg⟩
    · rfl
end Go.Proofs.Ytghdnnfohllcbaa.S10
/- Layer 10: Shared for every rotation. -/
namespace Go.Proofs.Ytghdnnfohllcbaa.S10
open Go.RowKit Go.Sort C6

theorem row_own {w : World} {base n c : Nat} {a : Option Addr} {t : TypeId} {xs : List Value} (h : w.ownsRow base t 1 (.slice a n c) n xs) : ∀ b, (Value.slice a n c).ownBlock = some b → base ≤ b ∧ b < w.heap.size := fun b e => h.lt b e

set_option maxHeartbeats 8000000 in
set_option maxRecDepth 100000 in
theorem Shared_i (N T S F P Q : Int) (w : World) : Calls Try.prog 37 #[.agg #[.int .i64 N, .int .i64 T, .int .i64 S, .int .i64 F], .int .i64 P, .int .i64 Q] w (IPost w (both (panI N T S F P) (panI N T S F Q))) := by
  obtain ⟨W1, hW1⟩ : ∃ W, W = w.alloc (.cells #[.int .i64 N, .int .i64 T, .int .i64 S, .int .i64 F] 62) := ⟨_, rfl⟩
  obtain ⟨g, hg⟩ : ∃ g, g = w.heap.size := ⟨_, rfl⟩
  have x1 : W1.heap[g]? = some (.cells #[.int .i64 N, .int .i64 T, .int .i64 S, .int .i64 F] 62 (0, 0)) := by rw [hW1, hg]; exact cells4 _ _ _ _ _
  have HB1 := Lib.hid (show Below w.heap.size w W1 by rw [hW1]; exact below_new _ _)
  have PQ := Lib.hid (Panels_i N T S F Q W1)
  have PV := Lib.hid (Panels_i N T S F P)
  have HX := Lib.hid x1
  obtain ⟨l, hl⟩ : ∃ l, l = panI N T S F P := ⟨_, rfl⟩
  obtain ⟨k, hk⟩ : ∃ k, k = panI N T S F Q := ⟨_, rfl⟩
  have HL24 : Hid (l.length ≤ 24) := by unfold Hid; rw [hl]; exact panI_len _ _ _ _ _
  rw [← hl] at PV ⊢
  rw [← hk] at PQ ⊢
  obtain ⟨k0, k1, k2, k3⟩ := cells4_at x1
  clear hl hk x1
  go_enter Try.func37, Try.ntmps37
  go_wp2_with fail
  rw [← hW1]
  try rw [← hg]
  clear hW1
  refine PQ.out.mono ?_; rintro e w2 ⟨a2, n2, c2, rfl, hn2, hrow2, b2⟩
  have X2 : Hid (w2.heap[g]? = some (.cells #[.int .i64 N, .int .i64 T, .int .i64 S, .int .i64 F] 62 (0, 0))) := (b2.block g (Array.getElem?_eq_some_iff.1 HX.out).1).trans HX.out
  have HB2 : Hid (Below w.heap.size w w2) := HB1.out.trans (b2.mono HB1.out.size)
  obtain ⟨G, hG⟩ : ∃ G, G = w2.heap.size := ⟨_, rfl⟩
  obtain ⟨W3, hW3⟩ : ∃ W, W = w2.alloc (.cells #[.slice a2 n2 c2] 23) := ⟨_, rfl⟩
  have HO3 : Hid (Oth W3 G a2 c2 n2 k) := by
    refine ⟨hn2, ?_, ?_, ?_⟩
    · have e : W3.heap[G]? = some (.cells #[.slice a2 n2 c2] 23 (0, 0)) := by rw [hW3, hG]; exact heap_alloc_new _ _
      simp [World.cell?, e]
    · rw [hW3, hG, World.size_alloc]; omega
    · rw [hW3]; exact (row_lift hrow2 (Nat.zero_le _)).alloc _
  have HLT : Hid (∀ b, (Value.slice a2 n2 c2).ownBlock = some b → b < G) := fun b e => by rw [hG]; exact (hrow2.lt b e).2
  have b3 : Below w2.heap.size w2 W3 := by rw [hW3]; exact below_new _ _
  have X3 : Hid (W3.heap[g]? = some (.cells #[.int .i64 N, .int .i64 T, .int .i64 S, .int .i64 F] 62 (0, 0))) := (b3.block g (Array.getElem?_eq_some_iff.1 X2.out).1).trans X2.out
  have HB3 : Hid (Below w.heap.size w W3) := HB2.out.trans (b3.mono HB2.out.size)
  have PV3 := Lib.hid (PV.out W3)
  clear k0 k1 k2 k3 hn2 hrow2 b2 b3 PV PQ HX hg
  go_upto_region 2 with fail
  rw [← hW3]
  try rw [← hG]
  clear hW3
  obtain ⟨k0, k1, k2, k3⟩ := cells4_at X3.out
  go_wp2_with fail
  refine PV3.out.mono ?_; rintro e w4 ⟨a1, n1, c1, rfl, hn1, hrow1, b4⟩
  have HO4 := Lib.hid (HO3.out.below b4)
  have HB4 : Hid (Below w.heap.size w w4) := HB3.out.trans (b4.mono HB3.out.size)
  have hG3 : G < W3.heap.size := HO3.out.lt
  have hw3 : w.heap.size ≤ W3.heap.size := HB3.out.size
  have HLB : Hid (∀ b, (Value.slice a1 n1 c1).ownBlock = some b → w.heap.size ≤ b) := fun b e => Nat.le_trans hw3 (hrow1.lt b e).1
  have h1 : (Value.slice a1 n1 c1).ownBlock ≠ some G := fun e => by have := (hrow1.lt G e).1; omega
  have h2 : (Value.slice a2 n2 c2).ownBlock = none ∨ (Value.slice a2 n2 c2).ownBlock ≠ (Value.slice a1 n1 c1).ownBlock := by
    cases e2 : (Value.slice a2 n2 c2).ownBlock with
    | none => exact .inl rfl
    | some b => exact .inr fun e => by have := HLT.out b e2; have := (hrow1.lt b e.symm).1; omega
  have DV := Lib.hid (del_v G c2 n2 a2 k w4 hrow1 hn1 (by have := HL24.out; omega) HO4.out h1 h2)
  clear k0 k1 k2 k3 h1 h2 hrow1 hn1 b4 PV3
  go_wp2_with fail
  rw [← hG]
  refine DV.out.mono ?_; rintro e w5 ⟨m, rfl, hm, hrow5, g5⟩
  have hrl : ∀ b, (Value.slice a1 n1 c1).ownBlock = some b → w.heap.size ≤ b := HLB.out
  have HB5 : Hid (Below w.heap.size w w5) := HB4.out.grown g5 HB4.out.size hrl
  have HR5 := Lib.hid hrow5
  have HM := Lib.hid hm
  clear hrow5 g5 hm hrl
  go_wp2_with fail
  go_ret
  exact ⟨a1, m, c1, rfl, HM.out, row_lift HR5.out hw3, HB5.out⟩
end Go.Proofs.Ytghdnnfohllcbaa.S10
