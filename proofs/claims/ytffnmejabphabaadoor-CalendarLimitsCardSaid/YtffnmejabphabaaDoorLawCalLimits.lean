import Derived.Test.YtffnmejabphabaaDoorCal12
import Derived.OwnWalk
import Derived.Laws.OwnMore
/- CalendarLimits: the walk. -/
namespace Go.Proofs.YtffnmejabphabaaDoor
open Go.RowKit Go.Sort

/-- block g is a row of k integers -/
def Row (w : World) (g k : Nat) (hs : List Int) : Prop := hs.length = k ∧ w.ownsRow g 3 1 (.slice (some ⟨g, 0, none⟩) k k) k (vals hs) ∧ (∀ z ∈ hs, -9223372036854775808 ≤ z ∧ z ≤ 9223372036854775807)
theorem Row.made {w w' : World} {k : Nat} (h : w'.ownsRow w.heap.size 3 1 (.slice (some ⟨w.heap.size, 0, none⟩) k k) k (madeCells (Value.int .i64 0).cells (k * 1)).toList) : Row w' w.heap.size k (List.replicate k 0) := by
  have e : (madeCells (Value.int .i64 0).cells (k * 1)).toList = vals (List.replicate k 0) := by
    rw [show (Value.int .i64 0).cells = #[Value.int .i64 0] from rfl, toList_madeCells_one, Nat.mul_one]
    simp [vals]
  rw [e] at h
  exact ⟨by simp, h, fun z hz => by rw [List.mem_replicate] at hz; omega⟩
theorem Row.rd {w : World} {g k : Nat} {hs : List Int} (h : Row w g k hs) : RdI w (some ⟨g, 0, none⟩) k hs := by
  obtain ⟨h1, h2, h3⟩ := h
  obtain ⟨ao, cap, e, hr⟩ := RdI.of_row h2 h3
  cases e
  exact hr
theorem Row.cell {w : World} {g k : Nat} {hs : List Int} (h : Row w g k hs) {i : Nat} (hi : i < k) : w.cell? ⟨g, i, none⟩ = some (.int .i64 (hs.getD i 0)) := by
  rw [h.2.1.cellAt i (by omega)]
  have := h.1
  have hi' : i < hs.length := by omega
  simp [vals, List.getD, hi']
theorem Row.frozen {w : World} {g k : Nat} {hs : List Int} (h : Row w g k hs) (i : Nat) : w.frozen? ⟨g, i, none⟩ = false := h.2.1.frozenAt i
theorem Row.set {w : World} {g k : Nat} {hs : List Int} (h : Row w g k hs) (i : Nat) (x : Int) (hx : -9223372036854775808 ≤ x ∧ x ≤ 9223372036854775807) : Row (w.setCell ⟨g, i, none⟩ (.int .i64 x)) g k (hs.set i x) := by
  refine ⟨by rw [List.length_set]; exact h.1, ?_, fun z hz => ?_⟩
  · have := (h.2.1.stored i (.int .i64 x)).1
    rw [show vals (hs.set i x) = (vals hs).set i (.int .i64 x) by simp [vals]]
    exact this
  · rcases List.mem_or_eq_of_mem_set hz with e | e
    · exact h.2.2 z e
    · rw [e]; exact hx

set_option maxHeartbeats 8000000 in
set_option maxRecDepth 100000 in
theorem CalendarLimits_any (d z : Int) (back : Bool) (w : World) (htab : Tab w) :
    Calls Tryd.prog 9 #[.int .i64 d, .int .i64 z, .bool back] w fun e w' => e = .returned (.bool true) ∧ Below w.heap.size w w' := by
  obtain ⟨i0, hi, hz0, hz1, hz2⟩ := info_partsc infoInt
  have HTab := Lib.hid htab
  clear htab
  go_enter Tryd.func9, Tryd.ntmps9
  go_wp2_with fail
  refine (Fold_v d 100000 (by omega) (by omega) _ 100000 rfl).mono ?_; rintro e w' ⟨f1, rfl, hf1, rfl⟩
  obtain ⟨N, hN⟩ : ∃ N : Int, 10000 + (f1 : Int) = N := ⟨_, rfl⟩
  have N0 : 10000 ≤ N := by omega
  have N1 : N ≤ 110000 := by omega
  go_wp2_with fail
  refine (Fold_v z 3 (by omega) (by omega) _ 3 rfl).mono ?_; rintro e w' ⟨f2, rfl, hf2, rfl⟩
  clear hN
  obtain ⟨K, hK⟩ : ∃ K : Int, 999 + (f2 : Int) = K := ⟨_, rfl⟩
  have K0 : 999 ≤ K := by omega
  have K1 : K ≤ 1001 := by omega
  go_wp2_with fail
  refine (Fold_v _ 3 (by omega) (by omega) _ 3 rfl).mono ?_; rintro e w' ⟨f3, rfl, hf3, rfl⟩
  clear hK
  obtain ⟨k, hk⟩ : ∃ k, k = 399 + f3 := ⟨_, rfl⟩
  have hki : (399 : Int) + (f3 : Int) = (k : Int) := by omega
  have hk1 : 399 ≤ k := by omega
  have hk2 : k ≤ 401 := by omega
  clear hk hf3
  go_wp2_with (at_make; refine wpList_make_full _ rfl _ _ 28 rfl w.heap.size 3 i0 (.int .i64 0) 1 Tryd.underlying28 hi hz0 hz1 _ _ _ _ k rfl rfl (by omega) (by omega) (by rw [hz2]; omega) (by unfold maxLen; omega) (Nat.le_refl _) ?_; intro w1 hown hgr)
  have hrow := Row.made hown
  have hbel : Below w.heap.size w w1 := (Below.refl _ _).grown hgr (Nat.le_refl _) (fun k hk => by cases hk)
  clear hki hown hgr hi hz0 hz1 hz2
  go_loopw [28] (fun s28 wr => ∃ (i : Nat) (hs : List Int), i ≤ k ∧ s28 = .int .i64 (i : Int) ∧ Hid (Row wr w.heap.size k hs) ∧ Hid (Below w.heap.size w wr)) (fun s28 _ => k - (intOf s28).toNat)
  case atStart => exact ⟨0, _, by omega, rfl, hrow, hbel⟩
  case round =>
    obtain ⟨i, hs, hik, rfl, hr, hbl⟩ := hrel
    by_cases hlt : i < k
    · have hcell := hr.out.cell hlt
      have hfro := hr.out.frozen i
      have HSet : Hid (Row (wr.setCell ⟨w.heap.size, i, none⟩ (.int .i64 (N + (i : Int)))) w.heap.size k (hs.set i (N + (i : Int)))) := hr.out.set i (N + (i : Int)) (by omega)
      go_wp2_with fail
      go_roundw
      case rel => exact ⟨i + 1, _, by omega, by go_num, HSet, hbl.out.setCell (Nat.le_refl _) _⟩
      case measure => simp [intOf]; omega
    · obtain rfl : i = k := by omega
      have hl : hs.length = i := hr.out.1
      have HRD : Hid (RdI wr (some ⟨w.heap.size, 0, none⟩) i hs) := hr.out.rd
      have HTW := Lib.hid (HTab.out.below hbl.out)
      have HL := Lib.hid hl
      cases back
      · obtain ⟨a, er, hsh⟩ := Sh.ex hs N K
        have HS := Lib.hid hsh
        have hv := Shift_v N K (some ⟨w.heap.size, 0, none⟩) i hs a er wr HRD.out hsh
        have hv2 := rShift_v N K (some ⟨w.heap.size, 0, none⟩) i hs a er wr HRD.out hsh
        rw [hl] at hv hv2
        have HV := Lib.hid hv
        have HV2 := Lib.hid hv2
        clear hsh hv hv2 hl
        go_wp2_with fail
        refine HV.out.mono ?_; rintro e w' ⟨rfl, rfl⟩
        go_wp2_with fail
        refine HV2.out.mono ?_; rintro e w' ⟨rfl, rfl⟩
        go_wp2_with fail
        refine (awake_v _ HTW.out).mono ?_; rintro e w5 ⟨rfl, b5⟩
        have BE := keepC hbl.out b5
        go_wp2_with fail
        go_ret
        exact ⟨rfl, BE⟩
      · obtain ⟨a, er, hsh⟩ := Sh.ex hs N (-K)
        have hwn : IntKind.i64.wrap (-K) = -K := IntWalk.i64_in _ (by omega)
        have hv := Shift_v N (-K) (some ⟨w.heap.size, 0, none⟩) i hs a er wr HRD.out hsh
        have hv2 := rShift_v N (-K) (some ⟨w.heap.size, 0, none⟩) i hs a er wr HRD.out hsh
        rw [hl] at hv hv2
        have HV := Lib.hid hv
        have HV2 := Lib.hid hv2
        clear hsh hv hv2 hl
        go_wp2_with fail
        refine HV.out.mono ?_; rintro e w' ⟨rfl, rfl⟩
        go_wp2_with fail
        refine HV2.out.mono ?_; rintro e w' ⟨rfl, rfl⟩
        go_wp2_with fail
        refine (awake_v _ HTW.out).mono ?_; rintro e w5 ⟨rfl, b5⟩
        have BE := keepC hbl.out b5
        go_wp2_with fail
        go_ret
        exact ⟨rfl, BE⟩
end Go.Proofs.YtffnmejabphabaaDoor
