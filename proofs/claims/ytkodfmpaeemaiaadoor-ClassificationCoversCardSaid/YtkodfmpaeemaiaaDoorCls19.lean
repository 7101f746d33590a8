import Derived.Test.YtkodfmpaeemaiaaDoorCls18
import Derived.Deep.RegionWith
/- Package classification: Children. -/
namespace Go.Proofs.YtkodfmpaeemaiaaDoor.C6
open Go.RowKit Go.Sort

/-- the box of a text -/
def Txb (w : World) (g : Nat) (u : ByteArray) : Prop := w.heap[g]? = some (.cells #[.string u] 9 (0, 0))
theorem Txb.new (w : World) (u : ByteArray) : Txb (w.alloc (.cells #[.string u] 9)) w.heap.size u := by
  unfold Txb World.alloc
  simp
theorem Txb.lt {w : World} {g : Nat} {u : ByteArray} (h : Txb w g u) : g < w.heap.size := (Array.getElem?_eq_some_iff.1 h).1
theorem Txb.keepB {w w' : World} {B g : Nat} {u : ByteArray} (h : Txb w g u) (b : Below B w w') (hg : g < B) : Txb w' g u := (b.block g hg).trans h
theorem Txb.below {w w' : World} {g : Nat} {u : ByteArray} (h : Txb w g u) (b : Below w.heap.size w w') : Txb w' g u := (b.block g h.lt).trans h
theorem Txb.c0 {w : World} {g : Nat} {u : ByteArray} (h : Txb w g u) : w.cell? ⟨g, 0, none⟩ = some (.string u) := by
  unfold Txb at h
  simp [World.cell?, h]

/-- the codes whose parent a text is -/
noncomputable def chf (l : List ByteArray) (u : ByteArray) (i : Nat) : Bool := (par (l.getD i ByteArray.empty)).1.toList == u.toList
set_option maxHeartbeats 4000000 in
theorem childC_v (nm : ByteArray) (ao : Option Addr) (cap : Nat) (l : List ByteArray) (u : ByteArray) (gc gu i : Nat) (w : World) (h : RdS w ao cap l) (hev : ErrV w) (hil : i < l.length) (hc : Cls w gc nm ao l.length cap) (hu : Txb w gu u) :
    Calls Tryd.prog 32 #[.int .i64 (i : Int), .pointer (some ⟨gc, 0, none⟩), .pointer (some ⟨gu, 0, none⟩)] w fun e w' => e = .returned (.bool (chf l u i)) ∧ Below w.heap.size w w' := by
  obtain ⟨n, hn⟩ : ∃ n, n = l.length := ⟨_, rfl⟩
  obtain ⟨b, o, rfl, hx⟩ := h.atS (i := i) hil
  obtain ⟨x, hxe⟩ : ∃ x, x = l.getD i ByteArray.empty := ⟨_, rfl⟩
  have HF : Hid (chf l u i = ((par x).1.toList == u.toList)) := by unfold Hid chf; rw [hxe]
  rw [← hxe] at hx
  rw [← hn] at hc hil
  have hcp : n ≤ cap := by have := h.1; rw [strs_length] at this; omega
  have hcp2 := h.2.1
  have hiI : (i : Int) < (n : Int) := by omega
  have hPV := fun w h => Parent_v x w h
  obtain ⟨pa, hpa⟩ : ∃ p, p = (par x).1 := ⟨_, rfl⟩
  obtain ⟨pb, hpb⟩ : ∃ p, p = (par x).2 := ⟨_, rfl⟩
  rw [← hpa] at HF
  rw [← hpa, ← hpb] at hPV
  have PV := Lib.hid hPV
  have HE := Lib.hid hev
  have HU := Lib.hid hu
  have HF2 := Lib.hid HF
  have c1 := hc.c1
  have u0 := hu.c0
  clear hPV hpa hpb h hev hc hu hn HF hxe
  go_enter Tryd.func32, Tryd.ntmps32
  go_wp2_with fail
  refine (PV.out _ HE.out).mono ?_; rintro e w1 ⟨rfl, b1⟩
  have u1 := (HU.out.below b1).c0
  have HB := Lib.hid b1
  clear b1 c1 u0 hx
  go_wp2_with fail
  go_ret
  exact ⟨ret_bool HF2.out.symm, HB.out⟩

set_option maxHeartbeats 4000000 in
theorem Children_v (nm : ByteArray) (ao : Option Addr) (cap : Nat) (l : List ByteArray) (u : ByteArray) (w : World) (h : RdS w ao cap l) (hl : l.length ≤ 1000) (hev : ErrV w) :
    Calls Tryd.prog 14 #[.agg #[.string nm, .slice ao l.length cap], .string u] w (SelPost w (selK l u (chf l u))) := by
  have b1 := below_new w (.cells #[.string nm, .slice ao l.length cap] 24)
  have k1 := Cls.new w nm ao l.length cap
  obtain ⟨W1, hW1⟩ : ∃ W1, W1 = w.alloc (.cells #[.string nm, .slice ao l.length cap] 24) := ⟨_, rfl⟩
  rw [← hW1] at b1 k1
  have hs1 : W1.heap.size = w.heap.size + 1 := by rw [hW1]; simp
  have b2 := below_new W1 (.cells #[.string u] 9)
  have k2 := Txb.new W1 u
  have k1' := k1.below b2
  obtain ⟨W2, hW2⟩ : ∃ W2, W2 = W1.alloc (.cells #[.string u] 9) := ⟨_, rfl⟩
  rw [← hW2] at b2 k2 k1'
  have hs2 : W2.heap.size = w.heap.size + 2 := by rw [hW2, World.size_alloc, hs1]
  have b12 : Below w.heap.size w W2 := keep b1 b2
  have hr2 := h.below b12
  have he2 := hev.below b12
  have hS := fun w' (hb : Below W2.heap.size W2 w') => selectedC_v nm ao cap l u w.heap.size W1.heap.size (chf l u) w' (hr2.below hb) hl (he2.below hb) (fun i hi w3 b3 => childC_v nm ao cap l u _ _ i w3 (((hr2.below hb).below b3)) ((he2.below hb).below b3) hi ((k1'.below hb).below b3) ((k2.below hb).below b3))
  obtain ⟨R, hR⟩ : ∃ R, R = selK l u (chf l u) := ⟨_, rfl⟩
  obtain ⟨n, hn⟩ : ∃ n, n = l.length := ⟨_, rfl⟩
  rw [← hR] at hS ⊢
  obtain ⟨g, hg⟩ : ∃ g, g = w.heap.size := ⟨_, rfl⟩
  rw [← hn] at hS hW1 k1' ⊢
  rw [hs1, ← hg] at hS
  rw [← hg] at k1'
  rw [hs1, ← hg] at k2
  have q1 := k1'.c1
  have q0 := k1'.c0
  have q2 := k2.c0
  have HS := Lib.hid hS
  have HB := Lib.hid b12
  have HS2 := Lib.hid hs2
  clear b1 k1 b2 k1' k2 b12 hr2 he2 hS h hl hev hR hn hs1 hs2
  go_enter Tryd.func14, Tryd.ntmps14
  go_wp2_with fail
  rw [← hW1, ← hg, ← hW2]
  clear hW1 hW2
  refine (HS.out _ (Below.refl _ _)).mono ?_; rintro e w3 ⟨v, rfl, hown, hbl⟩
  have HO := Lib.hid (own_mono hown (show w.heap.size ≤ W2.heap.size by have := HS2.out; omega))
  have HB3 := Lib.hid (keep HB.out hbl)
  clear hown hbl
  go_wp2_with fail
  go_ret
  exact ⟨_, rfl, HO.out, HB3.out⟩
end Go.Proofs.YtkodfmpaeemaiaaDoor.C6
