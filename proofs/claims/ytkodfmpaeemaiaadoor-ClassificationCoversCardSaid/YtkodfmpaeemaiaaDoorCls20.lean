import Derived.Test.YtkodfmpaeemaiaaDoorCls19
import Derived.Deep.RegionHeld3
/- Package classification: isLeaf and Leaves. -/
namespace Go.Proofs.YtkodfmpaeemaiaaDoor.C6
open Go.RowKit Go.Sort

/-- no code is below the one at a place -/
noncomputable def lf (l : List ByteArray) (i : Nat) : Bool := decide (i + 1 = l.length) || !wi (l.getD (i + 1) ByteArray.empty) (l.getD i ByteArray.empty)
theorem lf_last {l : List ByteArray} {i : Nat} (h : i + 1 = l.length) : lf l i = true := by unfold lf; simp [h]
theorem lf_not {l : List ByteArray} {i : Nat} (h : i + 1 ≠ l.length) : lf l i = !wi (l.getD (i + 1) ByteArray.empty) (l.getD i ByteArray.empty) := by unfold lf; simp [h]
/-- the codes without children within a text -/
noncomputable def lvf (l : List ByteArray) (u : ByteArray) (i : Nat) : Bool := wi (l.getD i ByteArray.empty) u && lf l i

set_option maxHeartbeats 4000000 in
set_option maxRecDepth 100000 in
theorem isLeaf_v (ao : Option Addr) (cap : Nat) (l : List ByteArray) (i : Nat) (w : World) (h : RdS w ao cap l) (hev : ErrV w) (hil : i < l.length) :
    Calls Tryd.prog 36 #[.slice ao l.length cap, .int .i64 (i : Int)] w fun e w' => e = .returned (.bool (lf l i)) ∧ Below w.heap.size w w' := by
  obtain ⟨n, hn⟩ : ∃ n, n = l.length := ⟨_, rfl⟩
  have hcp : n ≤ cap := by have := h.1; rw [strs_length] at this; omega
  have hcp2 := h.2.1
  have hin : i < n := by omega
  have hiI : (i : Int) < (n : Int) := by omega
  have HE := Lib.hid hev
  by_cases hl : i + 1 = n
  · have HF : Hid (lf l i = true) := lf_last (hl.trans hn)
    have hlI : (i : Int) + 1 = (n : Int) := by omega
    have hq : ((i : Int) + 1 == (n : Int)) = true := beq_iff_eq.2 hlI
    rw [← hn]
    clear h hn hl hev hil
    go_enter Tryd.func36, Tryd.ntmps36
    go_wp2_with fail
    go_quiet (fail)
    all_goals
      go_wp2_with fail
      go_ret
      exact ⟨ret_bool HF.out.symm, below_drewN' (Below.refl _ _) _⟩
  · have HF : Hid (lf l i = !wi (l.getD (i + 1) ByteArray.empty) (l.getD i ByteArray.empty)) := lf_not (by omega)
    have hi1 : i + 1 < l.length := by omega
    have hi2 : (i : Int) + 1 < (n : Int) := by omega
    have hq : ((i : Int) + 1 == (n : Int)) = false := beq_eq_false_iff_ne.2 (by omega)
    obtain ⟨b, o, rfl, hx⟩ := h.atS (i := i) hil
    obtain ⟨b', o', he, hy⟩ := h.atS (i := i + 1) hi1
    cases he
    obtain ⟨x, hxe⟩ : ∃ x, x = l.getD i ByteArray.empty := ⟨_, rfl⟩
    obtain ⟨y, hye⟩ : ∃ x, x = l.getD (i + 1) ByteArray.empty := ⟨_, rfl⟩
    rw [← hxe] at hx HF
    rw [← hye] at hy HF
    have HW := Lib.hid (fun w h => Within_v y x w h)
    obtain ⟨t, ht⟩ : ∃ t, t = wi y x := ⟨_, rfl⟩
    rw [← ht] at HF
    unfold Hid at HW
    rw [← ht] at HW
    have HW2 := Lib.hid HW
    have HF2 := Lib.hid HF
    have hi1n : i + 1 < n := by omega
    have hi0 : (0 : Int) ≤ (i : Int) + 1 := by omega
    have hit : Int.toNat ((i : Int) + 1) = i + 1 := by omega
    rw [← hn]
    clear h hn hl hev hil hxe hye ht HW HF hi1
    go_enter Tryd.func36, Tryd.ntmps36
    go_wp2_with fail
    have K : Hid (∀ w', Below w.heap.size w w' → w'.cell? ⟨b, o + i, none⟩ = some (.string x) ∧ w'.cell? ⟨b, o + (i + 1), none⟩ = some (.string y) ∧ Below w.heap.size w w') := fun w' hb => ⟨(hb.cell (World.block_lt_of_cell? _ _ hx)).trans hx, (hb.cell (World.block_lt_of_cell? _ _ hy)).trans hy, hb⟩
    have HEB : Hid (∀ w', Below w.heap.size w w' → ErrV w') := fun w' hb => HE.out.below hb
    go_region_held3 (fun w' => w'.cell? ⟨b, o + i, none⟩ = some (.string x) ∧ w'.cell? ⟨b, o + (i + 1), none⟩ = some (.string y) ∧ Below w.heap.size w w')
      (first | exact K.out _ (Below.refl _ _).drew | exact K.out _ (Below.refl _ _) | exact K.out _ (keepB (by assumption) (Nat.le_refl _) v1))
      (first | (go_at_call 35; go_split_ands; refine (HW2.out _ (HEB.out _ (by assumption))).mono ?_; rintro e V1 ⟨rfl, v1⟩; have BV : Below w.heap.size w V1 := keepB (by assumption) (Nat.le_refl _) v1))
    all_goals
      go_wp2_with fail
      go_ret
      exact ⟨ret_bool HF2.out.symm, BV⟩
end Go.Proofs.YtkodfmpaeemaiaaDoor.C6
