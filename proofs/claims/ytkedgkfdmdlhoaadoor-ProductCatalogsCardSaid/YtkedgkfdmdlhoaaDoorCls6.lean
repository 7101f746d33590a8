import Derived.Test.YtkedgkfdmdlhoaaDoorCls3
import Derived.Test.YtkedgkfdmdlhoaaDoorCls4
import Derived.Test.YtkedgkfdmdlhoaaDoorCls5
/- The reference of package classification: Is, Level, Path, Parent; lists compared. -/
namespace Go.Proofs.YtkedgkfdmdlhoaaDoor.C6
open Go.RowKit Go.Sort

theorem Is_v (s : ByteArray) (hs : s.size ≤ 1000) (w : World) : Calls Tryd.prog 27 #[.string s] w fun e w' => e = .returned (.bool (P s).isSome) ∧ Below w.heap.size w w' := by
  go_enter Tryd.func27, Tryd.ntmps27
  go_wp2_with fail
  refine (rParse_v s hs _).mono ?_; rintro e w1 h
  rcases h.cases with ⟨p, ao, cap, hP, _, _, rfl, hr, hf, hb⟩ | ⟨hP, rfl, hb⟩
  · have HE : Hid (true = (P s).isSome) := by unfold Hid; rw [hP]; rfl
    clear hP hr hf h
    go_wp2_with fail
    go_ret
    exact ⟨ret_bool HE.out, hb⟩
  · have HE : Hid (false = (P s).isSome) := by unfold Hid; rw [hP]; rfl
    clear hP h
    go_wp2_with fail
    go_ret
    exact ⟨ret_bool HE.out, hb⟩
theorem lev_some {s : ByteArray} {p : List Nat} (h : PO s = some p) : lev s = (p.length : Int) := by unfold lev; rw [h]
theorem lev_none {s : ByteArray} (h : PO s = none) : lev s = -1 := by unfold lev; rw [h]
theorem pth_some {s : ByteArray} {p : List Nat} (h : P s = some p) : pth s = prefs p := by unfold pth; rw [h]
theorem pth_none {s : ByteArray} (h : P s = none) : pth s = [] := by unfold pth; rw [h]
theorem prefs_take {p : List Nat} {i : Nat} (hi : i < p.length) : (prefs p).take (i + 1) = (prefs p).take i ++ [txt (p.take (i + 1))] := by
  have hl : i < (prefs p).length := by rw [prefs_length]; exact hi
  rw [List.take_add_one, List.getElem?_eq_getElem hl]
  have := prefs_get hi
  simp [List.getD, hl] at this
  rw [this]
  rfl
theorem below_drewN' {A w : World} (h : Below A.heap.size A w) (n : Nat) : Below A.heap.size A (w.drewN n) := h.trans (gb_below (gb_drewN w n (some w.heap.size)) (Nat.le_refl _) |>.mono h.size)
end Go.Proofs.YtkedgkfdmdlhoaaDoor.C6
