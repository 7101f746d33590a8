import Derived.Test.YtffnmejabphabaaDoorCal3
import Derived.Test.YtffnmejabphabaaDoorShelf
import Derived.Deep.LoopGhost
import Derived.Deep.RegionHeld3
/- Package calendar over whole numbers: first and last days, periods. -/
namespace Go.Proofs.YtffnmejabphabaaDoor
open Go.RowKit Go.Sort

/-- the world has drawn, and blocks lie behind -/
def Gr (w w' : World) : Prop := ∃ q os, w' = grow (w.drewN q) os
theorem Gr.refl (w : World) : Gr w w := ⟨0, #[], by rw [grow_empty]; rfl⟩
theorem Gr.trans {a b c : World} (h : Gr a b) (g : Gr b c) : Gr a c := by
  obtain ⟨q, os, rfl⟩ := h
  obtain ⟨q', os', rfl⟩ := g
  exact ⟨q + q', os ++ os', by show grow (grow ((a.drewN q).drewN q') os) os' = _; rw [grow_grow, World.drewN_drewN]⟩
theorem Gr.drew {a b : World} (h : Gr a b) : Gr a b.drew := h.trans ⟨1, #[], by rw [grow_empty]; rfl⟩
theorem Gr.drewN {a b : World} (h : Gr a b) (n : Nat) : Gr a (b.drewN n) := h.trans ⟨n, #[], by rw [grow_empty]⟩
theorem Gr.alloc {a b : World} (h : Gr a b) (o : Obj) : Gr a (b.alloc o) := h.trans ⟨0, #[o], by rw [alloc_eq_grow]; rfl⟩
theorem Gr.below {a b : World} (h : Gr a b) : Below a.heap.size a b := by
  obtain ⟨q, os, rfl⟩ := h
  exact below_grown_sl _ _ _ _ (Nat.le_refl _)
theorem Gr.cell {a b : World} (h : Gr a b) {p : Addr} {v : Value} (hc : a.cell? p = some v) : b.cell? p = some v := by
  obtain ⟨q, os, rfl⟩ := h
  exact cell_grown (World.block_lt_of_cell? _ _ hc) hc _ _

def lens : Array Value := #[.int .i64 31, .int .i64 28, .int .i64 31, .int .i64 30, .int .i64 31, .int .i64 30, .int .i64 31, .int .i64 31, .int .i64 30, .int .i64 31, .int .i64 30, .int .i64 31]
set_option maxHeartbeats 4000000 in
theorem monthLength_v (y m : Int) (h0 : 1900 ≤ y) (h1 : y ≤ 2399) (h2 : 1 ≤ m) (h3 : m ≤ 12) (w : World) :
    Calls Tryd.prog 47 #[.int .i64 y, .int .i64 m] w fun e w' => e = .returned (.int .i64 (mlI y m)) ∧ Gr w w' := by
  have G0 : Gr w (w.alloc (.cells #[.int .i64 31, .int .i64 28, .int .i64 31, .int .i64 30, .int .i64 31, .int .i64 30, .int .i64 31, .int .i64 31, .int .i64 30, .int .i64 31, .int .i64 30, .int .i64 31] 60)) := (Gr.refl w).alloc _
  have HL := Lib.hid (leap_v y h0 h1)
  have h : m = 2 ∨ (m = 1 ∨ m = 3 ∨ m = 5 ∨ m = 7 ∨ m = 8 ∨ m = 10 ∨ m = 12) ∨ (m = 4 ∨ m = 6 ∨ m = 9 ∨ m = 11) := by omega
  clear h2 h3
  rcases h with rfl | h | h
  · obtain ⟨l, hl⟩ : ∃ l, lpI y = l := ⟨_, rfl⟩
    have HQ : Hid ((if l = true then (29 : Int) else 28) = mlI y 2) := by unfold Hid; rw [← hl]; simp [mlI]
    have HB := Lib.hid hl
    clear hl
    cases l
    all_goals
      go_enter Tryd.func47, Tryd.ntmps47
      go_wp2_with fail
      refine (HL.out _).mono ?_; rintro e w' ⟨rfl, rfl⟩
      rw [HB.out]
      go_wp2_with fail
      go_ret
      exact ⟨ret_i64c HQ.out, G0⟩
  · rcases h with rfl | rfl | rfl | rfl | rfl | rfl | rfl
    all_goals
      go_enter Tryd.func47, Tryd.ntmps47
      go_wp2_with fail
      go_ret
      exact ⟨rfl, G0⟩
  · rcases h with rfl | rfl | rfl | rfl
    all_goals
      go_enter Tryd.func47, Tryd.ntmps47
      go_wp2_with fail
      go_ret
      exact ⟨rfl, G0⟩
end Go.Proofs.YtffnmejabphabaaDoor
