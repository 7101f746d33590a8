import Derived.Test.YtkodfmpaeemaiaaDoorCls21
import Derived.Test.YtkodfmpaeemaiaaDoorCls22
/- Package classification: Leaves. -/
namespace Go.Proofs.YtkodfmpaeemaiaaDoor.C6
open Go.RowKit Go.Sort

theorem leafC_v (nm : ByteArray) (ao : Option Addr) (cap : Nat) (l : List ByteArray) (u : ByteArray) (gc gu i : Nat) (w : World) (h : RdS w ao cap l) (hev : ErrV w) (hil : i < l.length) (hc : Cls w gc nm ao l.length cap) (hu : Txb w gu u) :
    Calls Tryd.prog 34 #[.int .i64 (i : Int), .pointer (some ⟨gc, 0, none⟩), .pointer (some ⟨gu, 0, none⟩)] w fun e w' => e = .returned (.bool (lvf l u i)) ∧ Below w.heap.size w w' := by
  cases ht : wi (l.getD i ByteArray.empty) u
  · exact leafC_f nm ao cap l u gc gu i w h hev hil hc hu ht
  · exact leafC_t nm ao cap l u gc gu i w h hev hil hc hu ht

set_option maxHeartbeats 4000000 in
theorem Leaves_v (nm : ByteArray) (ao : Option Addr) (cap : Nat) (l : List ByteArray) (u : ByteArray) (w : World) (h : RdS w ao cap l) (hl : l.length ≤ 1000) (hev : ErrV w) :
    Calls Tryd.prog 16 #[.agg #[.string nm, .slice ao l.length cap], .string u] w (SelPost w (selK l u (lvf l u))) := by
  have b1 := below_new w (.cells #[.string nm, .slice ao l.length cap] 24)
  have k1 := Cls.new w nm ao l.length cap
  obtain ⟨W1, hW1⟩ : ∃ W1, W1 = w.alloc (.cells #[.string nm, .slice ao l.length cap] 24) := ⟨_, rfl⟩
  rw [← hW1] at b1 k1
  have hs1 : W1.heap.size = w.heap.size + 1 := by rw [hW1]; simp
  have b2 := below_new W1 (.cells #[.string u] 9)
  have k2 := Txb.new W1 u
  have k1' := k1.below b2
  obtain ⟨W2, hW2⟩ : ∃ W2, W2 = W1.alloc (.cells #[.string u] 9) := ⟨_, rfl⟩
  rw [← hW2] at b2 k2 k1'
  have hs2 : W2.heap.size = w.heap.size + 2 := by rw [hW2, World.size_alloc, hs1]
  have b12 : Below w.heap.size w W2 := keep b1 b2
  have hr2 := h.below b12
  have he2 := hev.below b12
  have hS := fun w' (hb : Below W2.heap.size W2 w') => selectedL_v nm ao cap l u w.heap.size W1.heap.size (lvf l u) w' (hr2.below hb) hl (he2.below hb) (fun i hi w3 b3 => leafC_v nm ao cap l u _ _ i w3 (((hr2.below hb).below b3)) ((he2.below hb).below b3) hi ((k1'.below hb).below b3) ((k2.below hb).below b3))
  obtain ⟨R, hR⟩ : ∃ R, R = selK l u (lvf l u) := ⟨_, rfl⟩
  obtain ⟨n, hn⟩ : ∃ n, n = l.length := ⟨_, rfl⟩
  rw [← hR] at hS ⊢
  obtain ⟨g, hg⟩ : ∃ g, g = w.heap.size := ⟨_, rfl⟩
  rw [← hn] at hS hW1 k1' ⊢
  rw [hs1, ← hg] at hS
  rw [← hg] at k1'
  rw [hs1, ← hg] at k2
  have q1 := k1'.c1
  have q0 := k1'.c0
  have q2 := k2.c0
  have HS := Lib.hid hS
  have HB := Lib.hid b12
  have HS2 := Lib.hid hs2
  clear b1 k1 b2 k1' k2 b12 hr2 he2 hS h hl hev hR hn hs1 hs2
  go_enter Tryd.func16, Tryd.ntmps16
  go_wp2_with fail
  rw [← hW1, ← hg, ← hW2]
  clear hW1 hW2
  refine (HS.out _ (Below.refl _ _)).mono ?_; rintro e w3 ⟨v, rfl, hown, hbl⟩
  have HO := Lib.hid (own_mono hown (show w.heap.size ≤ W2.heap.size by have := HS2.out; omega))
  have HB3 := Lib.hid (keep HB.out hbl)
  clear hown hbl
  go_wp2_with fail
  go_ret
  exact ⟨_, rfl, HO.out, HB3.out⟩
end Go.Proofs.YtkodfmpaeemaiaaDoor.C6
