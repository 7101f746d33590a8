import Derived.Test.YtkodfmpaeemaiaaDoorCls20
/- Package classification: Leaves, where the code at the place is within the text. -/
namespace Go.Proofs.YtkodfmpaeemaiaaDoor.C6
open Go.RowKit Go.Sort

set_option maxHeartbeats 4000000 in
set_option maxRecDepth 100000 in
theorem leafC_t (nm : ByteArray) (ao : Option Addr) (cap : Nat) (l : List ByteArray) (u : ByteArray) (gc gu i : Nat) (w : World) (h : RdS w ao cap l) (hev : ErrV w) (hil : i < l.length) (hc : Cls w gc nm ao l.length cap) (hu : Txb w gu u) (ht : wi (l.getD i ByteArray.empty) u = true) :
    Calls Tryd.prog 34 #[.int .i64 (i : Int), .pointer (some ⟨gc, 0, none⟩), .pointer (some ⟨gu, 0, none⟩)] w fun e w' => e = .returned (.bool (lvf l u i)) ∧ Below w.heap.size w w' := by
  obtain ⟨n, hn⟩ : ∃ n, n = l.length := ⟨_, rfl⟩
  obtain ⟨b, o, e0, hx⟩ := h.atS (i := i) hil
  have HF : Hid (lvf l u i = lf l i) := by unfold Hid lvf; rw [ht]; rfl
  have hI := fun w h e => isLeaf_v ao cap l i w h e hil
  obtain ⟨x, hxe⟩ : ∃ x, x = l.getD i ByteArray.empty := ⟨_, rfl⟩
  obtain ⟨t, hte⟩ : ∃ t, t = lf l i := ⟨_, rfl⟩
  have hW := fun w h => Within_v x u w h
  rw [← hxe] at hx ht
  rw [ht] at hW
  rw [← hte] at HF hI
  rw [← hn] at hc hil hI
  have hcp : n ≤ cap := by have := h.1; rw [strs_length] at this; omega
  have hcp2 := h.2.1
  have hi0 : (0 : Int) ≤ (i : Int) := by omega
  have hiI : (i : Int) < (n : Int) := by omega
  have HI := Lib.hid hI
  have HW := Lib.hid hW
  have HE := Lib.hid hev
  have HR := Lib.hid h
  have HF2 := Lib.hid HF
  have c1 := hc.c1
  have u0 := hu.c0
  subst e0
  have K : Hid (∀ w', Below w.heap.size w w' → w'.cell? ⟨gc, 1, none⟩ = some (.slice (some ⟨b, o, none⟩) n cap) ∧ w'.cell? ⟨gu, 0, none⟩ = some (.string u) ∧ w'.cell? ⟨b, o + i, none⟩ = some (.string x) ∧ Below w.heap.size w w') := fun w' hb =>
    ⟨(hb.cell hc.lt).trans c1, (hb.cell hu.lt).trans u0, (hb.cell (World.block_lt_of_cell? _ _ hx)).trans hx, hb⟩
  have HEB : Hid (∀ w', Below w.heap.size w w' → ErrV w') := fun w' hb => HE.out.below hb
  have HRB : Hid (∀ w', Below w.heap.size w w' → RdS w' (some ⟨b, o, none⟩) cap l) := fun w' hb => HR.out.below hb
  clear hI hW hev h HF hc hu hn hxe hte ht
  go_enter Tryd.func34, Tryd.ntmps34
  go_wp2_with fail
  go_region_held3 (fun w' => w'.cell? ⟨gc, 1, none⟩ = some (.slice (some ⟨b, o, none⟩) n cap) ∧ w'.cell? ⟨gu, 0, none⟩ = some (.string u) ∧ w'.cell? ⟨b, o + i, none⟩ = some (.string x) ∧ Below w.heap.size w w')
    (first | exact K.out _ (Below.refl _ _).drew | exact K.out _ (Below.refl _ _) | exact K.out _ (keepB (by assumption) (Nat.le_refl _) v1) | exact K.out _ (keepB (by assumption) (Nat.le_refl _) v2))
    (first
      | (go_at_call 36; go_split_ands; refine (HI.out _ (HRB.out _ (by assumption)) (HEB.out _ (by assumption))).mono ?_; rintro e V2 ⟨rfl, v2⟩; have BV : Below w.heap.size w V2 := keepB (by assumption) (Nat.le_refl _) v2)
      | (go_at_call 35; go_split_ands; refine (HW.out _ (HEB.out _ (by assumption))).mono ?_; rintro e V1 ⟨rfl, v1⟩))
  all_goals
    go_wp2_with fail
    go_ret
    exact ⟨ret_bool HF2.out.symm, BV⟩
end Go.Proofs.YtkodfmpaeemaiaaDoor.C6
