import Derived.Test.YtkodfmpaeemaiaaDoorCls23
import Derived.Test.YtkodfmpaeemaiaaDoorCls25
import Derived.Test.YtkodfmpaeemaiaaDoorCls26
import Derived.Test.YtkodfmpaeemaiaaDoorCls6
import Derived.Test.YtkodfmpaeemaiaaDoorCls15
/- Children and Leaves of both over one classification and one string: the same lists. -/
namespace Go.Proofs.YtkodfmpaeemaiaaDoor.C6
open Go.RowKit Go.Sort

theorem rawl_sz (l : List ByteArray) : ∀ s ∈ rawl l, s.size ≤ 1000 := by
  intro s hs
  obtain ⟨t, _, rfl⟩ := List.mem_map.1 hs
  rw [ByteArray.size_extract]
  omega
theorem rawl_ln (l : List ByteArray) : (rawl l).length ≤ 30 := by
  unfold rawl
  rw [List.length_map, List.length_take]
  omega
/-- from every world that grows from W0, this call answers with a slice that reads P -/
def SelC (W0 : World) (f : Nat) (args : Array Value) (m : Nat) (P : List ByteArray) : Prop :=
  ∀ w', Below W0.heap.size W0 w' → Calls Tryd.prog f args w' fun e w2 => ∃ a c, e = .returned (.slice a m c) ∧ RdS w2 a c P ∧ Below w'.heap.size w' w2
theorem SelPost.row {w w2 : World} {res : List ByteArray} {e : Ending} {m : Nat} (h : SelPost w res e w2) (hm : res.length = m) : ∃ a c, e = .returned (.slice a m c) ∧ RdS w2 a c res ∧ Below w.heap.size w w2 := by
  obtain ⟨v, rfl, ho, hb⟩ := h
  obtain ⟨a, c, rfl, hr, _⟩ := RdV.of_row ho
  subst hm
  exact ⟨a, c, by rw [strs_length], hr, hb⟩
/-- the four functions over one classification and one string -/
theorem four (nm : ByteArray) (ao : Option Addr) (cap n : Nat) (l : List ByteArray) (u : ByteArray) (W0 : World) (h : RdS W0 ao cap l) (hn : n = l.length) (hl : l.length ≤ 1000) (hsz : ∀ s ∈ l, s.size ≤ 1000) (hev : ErrV W0) :
    ∃ m1 P1 m2 P2, SelC W0 14 #[.agg #[.string nm, .slice ao n cap], .string u] m1 P1 ∧ SelC W0 15 #[.agg #[.string nm, .slice ao n cap], .string u] m1 P1 ∧
      SelC W0 16 #[.agg #[.string nm, .slice ao n cap], .string u] m2 P2 ∧ SelC W0 17 #[.agg #[.string nm, .slice ao n cap], .string u] m2 P2 ∧ P1.length = m1 ∧ P2.length = m2 := by
  subst hn
  refine ⟨_, selK l u (chf l u), _, selK l u (lvf l u), fun w' hb => ?_, fun w' hb => ?_, fun w' hb => ?_, fun w' hb => ?_, rfl, rfl⟩
  · exact (Children_v nm ao cap l u w' (h.below hb) hl (hev.below hb)).mono fun e w2 hp => hp.row rfl
  · exact (rChildren_v nm ao cap l u w' (h.below hb) hl hsz).mono fun e w2 hp => hp.row rfl
  · exact (Leaves_v nm ao cap l u w' (h.below hb) hl (hev.below hb)).mono fun e w2 hp => hp.row rfl
  · exact (rLeaves_v nm ao cap l u w' (h.below hb) hl hsz).mono fun e w2 hp => hp.row rfl
theorem two_cells (w : World) (u v : Value) (t : TypeId) : ∀ j x, [u, v][j]? = some x → (w.alloc (.cells #[u, v] t)).cell? ((⟨w.heap.size, 0, none⟩ : Addr).add j) = some x := by
  intro j x hj
  rw [Addr.add_lit]
  match j with
  | 0 => cases hj; exact World.cell?_alloc_mark w _ _ (0, 0) 0
  | 1 => cases hj; exact World.cell?_alloc_mark w _ _ (0, 0) 1
  | j + 2 => cases hj
/-- SameStrings of two slices that read one list -/
theorem same_v {m : Nat} {P : List ByteArray} (hP : P.length = m) (a : Option Addr) (c : Nat) (a2 : Option Addr) (c2 : Nat) (w : World) (h1 : RdS w a c P) (h2 : RdS w a2 c2 P) :
    Calls Tryd.prog 13 #[.slice a m c, .slice a2 m c2] w fun e w' => e = .returned (.bool true) ∧ Below w.heap.size w w' := by
  subst hP
  exact (SameStrings_v a a2 c c2 P P w h1 h2).mono fun e w' ⟨h3, h4⟩ => ⟨by rw [h3, decide_eq_true rfl], h4⟩
end Go.Proofs.YtkodfmpaeemaiaaDoor.C6
