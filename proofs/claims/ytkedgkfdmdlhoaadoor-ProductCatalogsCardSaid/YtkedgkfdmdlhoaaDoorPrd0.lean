import Derived.Test.YtkedgkfdmdlhoaaDoorPrdS
import Derived.Test.YtkedgkfdmdlhoaaDoorTape
import Derived.Sort.OwnSorted
import Derived.Shelf.GgSortFunc.InsertionK
/- Layer 9: attributes in memory: slices that read them, rows of one's own, sorted rows. -/
namespace Go.Proofs.YtkedgkfdmdlhoaaDoor.P9
open Go.RowKit Go.Sort C6

def encA (x : Atr) : List Value := [.string x.1, .string x.2]
def atv (l : List Atr) : List Value := l.flatMap encA
theorem atv_nil : atv [] = [] := rfl
theorem atv_cons (x : Atr) (l : List Atr) : atv (x :: l) = .string x.1 :: .string x.2 :: atv l := rfl
theorem atv_append (l m : List Atr) : atv (l ++ m) = atv l ++ atv m := by simp [atv]
theorem atv_one (l : List Atr) (x : Atr) : atv (l ++ [x]) = atv l ++ [.string x.1, .string x.2] := by rw [atv_append]; rfl
theorem atv_length (l : List Atr) : (atv l).length = l.length * 2 := by
  induction l with
  | nil => rfl
  | cons x l ih => rw [atv_cons, List.length_cons, List.length_cons, List.length_cons, ih]; omega
theorem atv_at (l : List Atr) (i : Nat) (hi : i < l.length) : (atv l)[i * 2]? = some (.string (l.getD i e2).1) ∧ (atv l)[i * 2 + 1]? = some (.string (l.getD i e2).2) := by
  induction l generalizing i with
  | nil => simp at hi
  | cons x l ih =>
    cases i with
    | zero => exact ⟨rfl, rfl⟩
    | succ i =>
      have h := ih i (by simpa using hi)
      have e1 : (i + 1) * 2 = i * 2 + 1 + 1 := by omega
      rw [e1, atv_cons]
      simpa [List.getD] using h
theorem atv_one' (l : List Atr) : ∀ u ∈ atv l, u.oneCell' = true := by
  intro u hu
  unfold atv at hu
  obtain ⟨x, _, hx⟩ := List.mem_flatMap.1 hu
  simp [encA] at hx
  rcases hx with rfl | rfl <;> rfl
theorem flat_atv (l : List Atr) : (flatK encA 2 l.toArray).toList = atv l := by
  apply List.ext_getElem?
  intro t
  by_cases ht : t < l.length * 2
  · have hi : t / 2 < l.length := by omega
    obtain ⟨h0, h1⟩ := atv_at l (t / 2) hi
    have e : (flatK encA 2 l.toArray).toList[t]? = some ((encA (l.getD (t / 2) e2))[t % 2]!) := by
      unfold flatK
      have : l[t / 2]! = l.getD (t / 2) e2 := by simp [List.getD, hi]
      simp [ht, hi, List.getD]
    rw [e]
    by_cases hm : t % 2 = 0
    · rw [show t / 2 * 2 = t by omega] at h0
      rw [h0, hm]
      rfl
    · rw [show t / 2 * 2 + 1 = t by omega] at h1
      rw [h1, show t % 2 = 1 by omega]
      rfl
  · rw [List.getElem?_eq_none (by simp [flatK]; omega), List.getElem?_eq_none (by rw [atv_length]; omega)]

/-- two cells at an address -/
def At2 (w : World) (b o : Nat) (x : Atr) : Prop := w.cell? ⟨b, o, none⟩ = some (.string x.1) ∧ w.cell? ⟨b, o + 1, none⟩ = some (.string x.2)
/-- the slice at ao, of capacity cap, reads the attributes -/
def RdA (w : World) (ao : Option Addr) (cap : Nat) (l : List Atr) : Prop :=
  l.length ≤ cap ∧ cap ≤ 9223372036854775807 ∧
    ((l = [] ∧ (ao = none → cap = 0)) ∨ ∃ b o, ao = some ⟨b, o, none⟩ ∧ ∀ i, i < l.length → At2 w b (o + i * 2) (l.getD i e2))
theorem RdA.nil (w : World) : RdA w none 0 [] := ⟨by simp, by omega, .inl ⟨rfl, fun _ => rfl⟩⟩
theorem RdA.at {w : World} {ao : Option Addr} {cap : Nat} {l : List Atr} (h : RdA w ao cap l) {i : Nat} (hi : i < l.length) : ∃ b o, ao = some ⟨b, o, none⟩ ∧ ∀ i, i < l.length → At2 w b (o + i * 2) (l.getD i e2) := by
  rcases h.2.2 with ⟨rfl, _⟩ | h
  · simp at hi
  · exact h
theorem At2.lt {w : World} {b o : Nat} {x : Atr} (h : At2 w b o x) : b < w.heap.size := World.block_lt_of_cell? _ _ h.1
/-- the block that it reads, if it reads anything -/
def offB (ao : Option Addr) (l : List Atr) (p : Nat → Prop) : Prop := 0 < l.length → ∀ b o, ao = some ⟨b, o, none⟩ → p b
theorem RdA.lt {w : World} {ao : Option Addr} {cap : Nat} {l : List Atr} (h : RdA w ao cap l) : offB ao l (fun b => b < w.heap.size) := by
  intro h0 b o e
  obtain ⟨b', o', e', hc⟩ := h.at h0
  rw [e] at e'
  cases e'
  exact (hc 0 h0).lt
theorem RdA.same {w w' : World} {ao : Option Addr} {cap : Nat} {l : List Atr} (h : RdA w ao cap l) (hs : offB ao l (fun b => ∀ o v, w.cell? ⟨b, o, none⟩ = some v → w'.cell? ⟨b, o, none⟩ = some v)) : RdA w' ao cap l := by
  refine ⟨h.1, h.2.1, ?_⟩
  rcases h.2.2 with hn | ⟨b, o, e, hc⟩
  · exact .inl hn
  · refine .inr ⟨b, o, e, fun i hi => ?_⟩
    have hl : 0 < l.length := by omega
    exact ⟨hs hl b o e _ _ (hc i hi).1, hs hl b o e _ _ (hc i hi).2⟩
theorem RdA.keep {w w' : World} {B : Nat} {ao : Option Addr} {cap : Nat} {l : List Atr} (h : RdA w ao cap l) (hb : offB ao l (fun b => b < B)) (g : Below B w w') : RdA w' ao cap l :=
  h.same (fun h0 b o e p _ hv => (g.cell (p := ⟨b, p, none⟩) (hb h0 b o e)).trans hv)
theorem RdA.below {w w' : World} {ao : Option Addr} {cap : Nat} {l : List Atr} (h : RdA w ao cap l) (g : Below w.heap.size w w') : RdA w' ao cap l := h.keep h.lt g
theorem RdA.gbne {w w' : World} {gr : Nat} {ao : Option Addr} {cap : Nat} {l : List Atr} (h : RdA w ao cap l) (hne : offB ao l (fun b => b ≠ gr)) (g : w.grownBy w' (some gr)) : RdA w' ao cap l :=
  h.same (fun h0 b o e _ _ hv => g.cell hv (fun q => hne h0 b o e (Option.some.inj q)))
theorem RdA.grown {w w' : World} {row : Option Nat} {ao : Option Addr} {cap : Nat} {l : List Atr} (h : RdA w ao cap l) (hne : offB ao l (fun b => some b ≠ row)) (g : w.grownBy w' row) : RdA w' ao cap l :=
  h.same (fun h0 b o e _ _ hv => g.cell hv (hne h0 b o e))
theorem RdA.drew {w : World} {ao : Option Addr} {cap : Nat} {l : List Atr} (h : RdA w ao cap l) (n : Nat) : RdA (w.drewN n) ao cap l := h
theorem RdA.take {w : World} {ao : Option Addr} {cap : Nat} {l : List Atr} (h : RdA w ao cap l) (k : Nat) : RdA w ao cap (l.take k) := by
  refine ⟨by rw [List.length_take]; have := h.1; omega, h.2.1, ?_⟩
  rcases h.2.2 with ⟨rfl, h3⟩ | ⟨b, o, rfl, h3⟩
  · exact .inl ⟨by simp, h3⟩
  · refine .inr ⟨b, o, rfl, fun i hi => ?_⟩
    rw [List.length_take] at hi
    have := h3 i (by omega)
    rwa [show (l.take k).getD i e2 = l.getD i e2 by simp [List.getD, show i < k by omega]]
/-- the cells that an append copies -/
theorem RdA.news {w : World} {ao : Option Addr} {cap : Nat} {l : List Atr} (h : RdA w ao cap l) (h0 : 0 < l.length) : ∃ b o, ao = some ⟨b, o, none⟩ ∧ ∀ j u, (atv l)[j]? = some u → w.cell? ((⟨b, o, none⟩ : Addr).add j) = some u := by
  obtain ⟨b, o, e, hc⟩ := h.at h0
  refine ⟨b, o, e, fun j u hj => ?_⟩
  have hl := (List.getElem?_eq_some_iff.1 hj).1
  rw [atv_length] at hl
  have hi : j / 2 < l.length := by omega
  obtain ⟨a0, a1⟩ := atv_at l (j / 2) hi
  obtain ⟨c0, c1⟩ := hc (j / 2) hi
  rw [Addr.add_lit]
  by_cases hm : j % 2 = 0
  · rw [show j / 2 * 2 = j by omega] at a0 c0
    rw [a0] at hj
    cases hj
    exact c0
  · rw [show j / 2 * 2 + 1 = j by omega] at a1
    rw [show o + j / 2 * 2 + 1 = o + j by omega] at c1
    rw [a1] at hj
    cases hj
    exact c1
theorem infoAtr : (Tryd.prog.info? 52).map (fun i => (i.zero, i.size, i.bytes)) = some (some (.agg #[.string ByteArray.empty, .string ByteArray.empty]), 2, 32) := by kernel_rfl
/-- a row of the function's own reads its attributes -/
theorem RdA.of_row {w : World} {base n : Nat} {v : Value} {l : List Atr} {t : TypeId} (h : w.ownsRow base t 2 v n (atv l)) : ∃ ao cap, v = .slice ao l.length cap ∧ RdA w ao cap l ∧ offB ao l (fun b => base ≤ b) ∧ v.ownBlock = ao.map (·.block) := by
  have hlen : l.length = n := by have := h.1; rw [atv_length] at this; omega
  subst hlen
  rcases h.2 with ⟨rfl, h0⟩ | ⟨g, cap, cur, rfl, _, _, hn, hc, _, _⟩
  · have : l = [] := List.eq_nil_of_length_eq_zero h0
    subst this
    exact ⟨none, 0, rfl, RdA.nil _, fun h => by simp at h, rfl⟩
  · refine ⟨_, cap, rfl, ⟨hn, by unfold maxLen at hc; omega, .inr ⟨g, 0, rfl, fun i hi => ?_⟩⟩, fun _ b o e => by cases e; exact (h.lt g rfl).1, rfl⟩
    obtain ⟨a0, a1⟩ := atv_at l i hi
    refine ⟨?_, ?_⟩
    · rw [Nat.zero_add, h.cellAt (i * 2) (by omega), a0]
    · rw [Nat.zero_add, h.cellAt (i * 2 + 1) (by omega), a1]
theorem take_put (cur F : Array Value) (h : F.size ≤ cur.size) : (putCells id 0 F cur).toList.take F.size = F.toList := by
  apply List.ext_getElem?
  intro j
  by_cases hj : j < F.size
  · rw [List.getElem?_take_of_lt hj, Array.getElem?_toList]
    simp [putCells, hj, show j < cur.size by omega]
  · rw [List.getElem?_take_eq_none (by omega), List.getElem?_eq_none (by simp; omega)]
/-- the row as the library's sort asks it -/
theorem holds_row {w : World} {base n : Nat} {l : List Atr} {t : TypeId} {g cap : Nat} (h : w.ownsRow base t 2 (.slice (some ⟨g, 0, none⟩) n cap) n (atv l)) : HoldsK encA 2 w g 0 l.toArray := by
  have hlen : l.length = n := by have := h.1; rw [atv_length] at this; omega
  intro j hj
  have hj' : j < l.length * 2 := by simpa [flatK] using hj
  refine ⟨?_, h.frozenAt _⟩
  rw [Nat.zero_add, h.cellAt j (by omega), ← flat_atv]
  rw [Array.getElem?_toList, getElem!_pos _ j hj, Array.getElem?_eq_getElem hj]
  rfl
/-- behind the sort the same slice owns the sorted list -/
theorem row_sorted {w : World} {base n : Nat} {l m : List Atr} {t : TypeId} {g cap q : Nat} {os : Array Obj} (h : w.ownsRow base t 2 (.slice (some ⟨g, 0, none⟩) n cap) n (atv l)) (hm : m.length = l.length) :
    (sortWorldK encA 2 w g 0 q m.toArray os).ownsRow base t 2 (.slice (some ⟨g, 0, none⟩) n cap) n (atv m) ∧ w.grownBy (sortWorldK encA 2 w g 0 q m.toArray os) (some g) := by
  have hlen : l.length = n := by have := h.1; rw [atv_length] at this; omega
  rcases h.2 with ⟨h0, _⟩ | ⟨g', cap', cur, hv, hbase, hb, hn, hc, hs, ht⟩
  · cases h0
  cases hv
  have hg : g < w.heap.size := (Array.getElem?_eq_some_iff.1 hb).1
  have hF : (flatK encA 2 m.toArray).size = n * 2 := by simp [flatK]; omega
  constructor
  · refine ⟨by rw [atv_length]; omega, .inr ⟨g, cap, putCells id 0 (flatK encA 2 m.toArray) cur, rfl, hbase, ?_, hn, hc, by simp [putCells, hs], ?_⟩⟩
    · unfold sortWorldK putRowK
      rw [heap_grow_old _ _ (by simpa [putRow, mapBlock] using hg)]
      simp [putRow, mapBlock, Sort.ahead, Array.getElem?_modify, hb, onCells]
    · rw [← hF, take_put _ _ (by rw [hF, hs]; exact Nat.mul_le_mul_right 2 hn), flat_atv]
  · refine ⟨rfl, rfl, rfl, by simp [sortWorldK, putRowK, putRow, mapBlock], fun k hk hne => ?_⟩
    unfold sortWorldK putRowK
    rw [heap_grow_old _ _ (by simpa [putRow, mapBlock] using hk)]
    have : g ≠ k := fun e => hne (by rw [e])
    simp [putRow, mapBlock, Sort.ahead, Array.getElem?_modify, this]
end Go.Proofs.YtkedgkfdmdlhoaaDoor.P9
