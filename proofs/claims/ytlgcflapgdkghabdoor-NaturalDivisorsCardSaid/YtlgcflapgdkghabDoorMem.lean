/- What memory holds: a slice of limbs that can be read; a block of the call's own that can be written. -/
import Derived.Test.YtlgcflapgdkghabDoorMath
import Derived.Test.YtlgcflapgdkghabDoorChecked
import Derived.WalkKit
import Derived.WalkSpells
import Derived.WalkLawsBesides
import Derived.Lib.Hide
import Derived.Laws.BitsAllLaws
namespace Go.Proofs.YtlgcflapgdkghabDoor
open Go.RowKit

/-- the slice at ao, of capacity cap, reads xs -/
def Rd (w : World) (ao : Option Addr) (cap : Nat) (xs : List Nat) : Prop :=
  xs.length ≤ cap ∧ cap ≤ 9223372036854775807 ∧ Lims xs ∧
    ((xs = [] ∧ (ao = none → cap = 0)) ∨ ∃ b o, ao = some ⟨b, o, none⟩ ∧ ∀ i, i < xs.length → w.cell? ⟨b, o + i, none⟩ = some (.int .u32 ((lm xs i : Nat) : Int)))

theorem Rd.at {w : World} {ao : Option Addr} {cap : Nat} {xs : List Nat} (h : Rd w ao cap xs) (hn : 0 < xs.length) :
    ∃ b o, ao = some ⟨b, o, none⟩ ∧ ∀ i, i < xs.length → w.cell? ⟨b, o + i, none⟩ = some (.int .u32 ((lm xs i : Nat) : Int)) := by
  rcases h.2.2.2 with ⟨rfl, _⟩ | h
  · simp at hn
  · exact h
theorem Rd.lims {w : World} {ao : Option Addr} {cap : Nat} {xs : List Nat} (h : Rd w ao cap xs) : Lims xs := h.2.2.1
theorem Rd.le {w : World} {ao : Option Addr} {cap : Nat} {xs : List Nat} (h : Rd w ao cap xs) : xs.length ≤ cap := h.1
theorem Rd.max {w : World} {ao : Option Addr} {cap : Nat} {xs : List Nat} (h : Rd w ao cap xs) : cap ≤ 9223372036854775807 := h.2.1
theorem Rd.none_nil {w : World} {cap : Nat} {xs : List Nat} (h : Rd w none cap xs) : xs = [] ∧ cap = 0 := by
  rcases h.2.2.2 with ⟨rfl, h2⟩ | ⟨b, o, h2, _⟩
  · exact ⟨rfl, h2 rfl⟩
  · cases h2

/-- a world whose cells at the slice's own block read as before -/
theorem Rd.cells {w w' : World} {ao : Option Addr} {cap : Nat} {xs : List Nat} (h : Rd w ao cap xs)
    (hk : ∀ b o i, ao = some ⟨b, o, none⟩ → b < w.heap.size → w'.cell? ⟨b, o + i, none⟩ = w.cell? ⟨b, o + i, none⟩) : Rd w' ao cap xs := by
  refine ⟨h.1, h.2.1, h.2.2.1, ?_⟩
  rcases h.2.2.2 with hn | ⟨b, o, rfl, hc⟩
  · exact .inl hn
  · exact .inr ⟨b, o, rfl, fun i hi => (hk b o i rfl (World.block_lt_of_cell? w _ (hc i hi))).trans (hc i hi)⟩
theorem Rd.below {w w' : World} {ao : Option Addr} {cap : Nat} {xs : List Nat} (h : Rd w ao cap xs) (hb : Below w.heap.size w w') : Rd w' ao cap xs :=
  h.cells fun b o i _ hlt => hb.cell (p := ⟨b, o + i, none⟩) hlt
theorem Rd.alloc {w : World} {ao : Option Addr} {cap : Nat} {xs : List Nat} (h : Rd w ao cap xs) (o : Obj) : Rd (w.alloc o) ao cap xs :=
  h.below ((Below.refl _ _).alloc (Nat.le_refl _) o)
theorem Rd.drew {w : World} {ao : Option Addr} {cap : Nat} {xs : List Nat} (h : Rd w ao cap xs) : Rd w.drew ao cap xs := h
/-- a part from the head -/
theorem Rd.take {w : World} {ao : Option Addr} {cap : Nat} {xs : List Nat} (h : Rd w ao cap xs) (k : Nat) : Rd w ao cap (xs.take k) := by
  refine ⟨Nat.le_trans (List.length_take_le' _ _) h.1, h.2.1, lims_take h.2.2.1 _, ?_⟩
  rcases h.2.2.2 with ⟨rfl, hn⟩ | ⟨b, o, rfl, hc⟩
  · exact .inl ⟨by simp, hn⟩
  · refine .inr ⟨b, o, rfl, fun i hi => ?_⟩
    have hi' : i < k ∧ i < xs.length := by rw [List.length_take] at hi; omega
    rw [lm_take, if_pos hi'.1]
    exact hc i hi'.2
theorem Rd.trim {w : World} {ao : Option Addr} {cap : Nat} {xs : List Nat} (h : Rd w ao cap xs) : Rd w ao cap (trim xs) := h.take _
theorem Rd.nil (w : World) : Rd w none 0 [] := ⟨by simp, by omega, lims_nil, .inl ⟨rfl, fun _ => rfl⟩⟩
/-- the slice's block lies among those that are there -/
theorem Rd.lt {w : World} {b o cap : Nat} {xs : List Nat} (h : Rd w (some ⟨b, o, none⟩) cap xs) (hn : 0 < xs.length) : b < w.heap.size := by
  obtain ⟨b', o', e, hc⟩ := h.at hn
  cases e
  exact World.block_lt_of_cell? w _ (hc 0 hn)

/-- block b is the call's own: it can be written, and its first cells read cs -/
def Own (w : World) (b : Nat) (cs : List Nat) : Prop :=
  ∃ cur, w.heap[b]? = some (.cells cur 31 (0, 0)) ∧ cs.length ≤ cur.size ∧ ∀ j, j < cs.length → cur[j]? = some (.int .u32 ((lm cs j : Nat) : Int))

theorem Own.lt {w : World} {b : Nat} {cs : List Nat} (h : Own w b cs) : b < w.heap.size := by
  obtain ⟨cur, h1, _⟩ := h
  exact (Array.getElem?_eq_some_iff.1 h1).1
theorem Own.cell {w : World} {b : Nat} {cs : List Nat} (h : Own w b cs) {j : Nat} (hj : j < cs.length) : w.cell? ⟨b, j, none⟩ = some (.int .u32 ((lm cs j : Nat) : Int)) := by
  obtain ⟨cur, h1, _, h3⟩ := h
  simp [World.cell?, h1, h3 j hj]
theorem Own.frozen {w : World} {b : Nat} {cs : List Nat} (h : Own w b cs) (j : Nat) : w.frozen? ⟨b, j, none⟩ = false := by
  obtain ⟨cur, h1, _⟩ := h
  simp [World.frozen?, h1]
theorem Own.setCell {w : World} {b : Nat} {cs : List Nat} (h : Own w b cs) {j : Nat} (hj : j < cs.length) (x : Nat) : Own (w.setCell ⟨b, j, none⟩ (.int .u32 (x : Int))) b (cs.set j x) := by
  obtain ⟨cur, h1, h2, h3⟩ := h
  refine ⟨cur.setIfInBounds j (.int .u32 (x : Int)), ?_, by simpa using h2, ?_⟩
  · simp [World.setCell, Array.getElem?_modify, h1]
  · intro i hi
    rw [List.length_set] at hi
    rw [lm_set cs j x i hj, Array.getElem?_setIfInBounds]
    by_cases e : j = i
    · subst e
      rw [if_pos rfl, if_pos rfl]
      rw [if_pos (by omega)]
    · rw [if_neg e, if_neg (fun q => e q.symm)]
      exact h3 i hi
theorem Own.block {w w' : World} {b : Nat} {cs : List Nat} (h : Own w b cs) (e : w'.heap[b]? = w.heap[b]?) : Own w' b cs := by
  obtain ⟨cur, h1, h2⟩ := h
  exact ⟨cur, e.trans h1, h2⟩
theorem Own.below {B : Nat} {w w' : World} {b : Nat} {cs : List Nat} (h : Own w b cs) (hb : Below B w w') (hB : b < B) : Own w' b cs := h.block (hb.block b hB)
theorem Own.drew {w : World} {b : Nat} {cs : List Nat} (h : Own w b cs) : Own w.drew b cs := h
theorem Own.alloc {w : World} {b : Nat} {cs : List Nat} (h : Own w b cs) (o : Obj) : Own (w.alloc o) b cs := h.block (Below.heap_alloc w o b h.lt)
theorem Own.take {w : World} {b : Nat} {cs : List Nat} (h : Own w b cs) (k : Nat) : Own w b (cs.take k) := by
  obtain ⟨cur, h1, h2, h3⟩ := h
  refine ⟨cur, h1, Nat.le_trans (List.length_take_le' _ _) h2, fun j hj => ?_⟩
  have hj' : j < k ∧ j < cs.length := by rw [List.length_take] at hj; omega
  rw [lm_take, if_pos hj'.1]
  exact h3 j hj'.2
/-- what is owned can be read, from any place on -/
theorem Own.rd {w : World} {b : Nat} {cs : List Nat} (h : Own w b cs) (hl : Lims cs) (cap : Nat) (h1 : cs.length ≤ cap) (h2 : cap ≤ 9223372036854775807) : Rd w (some ⟨b, 0, none⟩) cap cs :=
  ⟨h1, h2, hl, .inr ⟨b, 0, rfl, fun i hi => by rw [Nat.zero_add]; exact h.cell hi⟩⟩

/-- a result: a slice of the call's own, from block B on, that reads xs -/
def Fr (B : Nat) (w : World) (ao : Option Addr) (cap : Nat) (xs : List Nat) : Prop :=
  xs.length ≤ cap ∧ cap ≤ 9223372036854775807 ∧ Lims xs ∧ ((ao = none ∧ xs = [] ∧ cap = 0) ∨ ∃ b, ao = some ⟨b, 0, none⟩ ∧ B ≤ b ∧ Own w b xs)
theorem Fr.rd {B : Nat} {w : World} {ao : Option Addr} {cap : Nat} {xs : List Nat} (h : Fr B w ao cap xs) : Rd w ao cap xs := by
  obtain ⟨h1, h2, h3, h4⟩ := h
  rcases h4 with ⟨rfl, rfl, rfl⟩ | ⟨b, rfl, _, h⟩
  · exact Rd.nil w
  · exact h.rd h3 _ h1 h2
theorem Fr.mono {B B' : Nat} {w : World} {ao : Option Addr} {cap : Nat} {xs : List Nat} (h : Fr B w ao cap xs) (hB : B' ≤ B) : Fr B' w ao cap xs := by
  obtain ⟨h1, h2, h3, h4⟩ := h
  refine ⟨h1, h2, h3, ?_⟩
  rcases h4 with h | ⟨b, rfl, hb, h⟩
  · exact .inl h
  · exact .inr ⟨b, rfl, by omega, h⟩
theorem Fr.below {B : Nat} {w w' : World} {ao : Option Addr} {cap : Nat} {xs : List Nat} (h : Fr B w ao cap xs) (hb : Below w.heap.size w w') : Fr B w' ao cap xs := by
  obtain ⟨h1, h2, h3, h4⟩ := h
  refine ⟨h1, h2, h3, ?_⟩
  rcases h4 with h | ⟨b, rfl, hB, h⟩
  · exact .inl h
  · exact .inr ⟨b, rfl, hB, h.below hb h.lt⟩
theorem Fr.take {B : Nat} {w : World} {ao : Option Addr} {cap : Nat} {xs : List Nat} (h : Fr B w ao cap xs) (k : Nat) : Fr B w ao cap (xs.take k) := by
  obtain ⟨h1, h2, h3, h4⟩ := h
  refine ⟨Nat.le_trans (List.length_take_le' _ _) h1, h2, lims_take h3 _, ?_⟩
  rcases h4 with ⟨rfl, rfl, rfl⟩ | ⟨b, rfl, hB, h⟩
  · exact .inl ⟨rfl, by simp, rfl⟩
  · exact .inr ⟨b, rfl, hB, h.take k⟩
theorem Fr.trim {B : Nat} {w : World} {ao : Option Addr} {cap : Nat} {xs : List Nat} (h : Fr B w ao cap xs) : Fr B w ao cap (trim xs) := h.take _
theorem Fr.of_own {B : Nat} {w : World} {b : Nat} {cs : List Nat} (h : Own w b cs) (hl : Lims cs) (hB : B ≤ b) (cap : Nat) (h1 : cs.length ≤ cap) (h2 : cap ≤ 9223372036854775807) : Fr B w (some ⟨b, 0, none⟩) cap cs :=
  ⟨h1, h2, hl, .inr ⟨b, rfl, hB, h⟩⟩
theorem Fr.nil (B : Nat) (w : World) : Fr B w none 0 [] := ⟨by simp, by omega, lims_nil, .inl ⟨rfl, rfl, rfl⟩⟩

/-- the value that a list of limbs stands for -/
def lits (xs : List Nat) : List Value := xs.map fun x => Value.int .u32 ((x : Nat) : Int)
theorem lits_get (xs : List Nat) (j : Nat) : (lits xs)[j]? = if j < xs.length then some (.int .u32 ((lm xs j : Nat) : Int)) else none := by
  unfold lits lm
  rw [List.getElem?_map]
  by_cases h : j < xs.length
  · simp [h, List.getD]
  · simp [h]
theorem lits_length (xs : List Nat) : (lits xs).length = xs.length := by simp [lits]

/-- from the kit's word for what a call owns -/
theorem Own.of_row {w : World} {base : Nat} {g n cap : Nat} {xs : List Nat} (h : w.ownsRow base 31 1 (.slice (some ⟨g, 0, none⟩) n cap) n (lits xs)) : Own w g xs ∧ base ≤ g ∧ n ≤ cap ∧ cap ≤ 9223372036854775807 ∧ xs.length = n := by
  obtain ⟨h1, h2⟩ := h
  have hlen : xs.length = n := by simpa [lits_length] using h1
  rcases h2 with ⟨h2, _⟩ | ⟨g', cap', cur, hv, hb, hg, hn, hc, hs, ht⟩
  · cases h2
  · cases hv
    have hs' : cur.size = cap := by simpa using hs
    refine ⟨⟨cur, hg, by omega, fun j hj => ?_⟩, hb, hn, by unfold maxLen at hc; omega, hlen⟩
    have h3 := congrArg (fun l => l[j]?) ht
    simp only [List.getElem?_take, lits_get] at h3
    rw [if_pos (by omega), if_pos hj] at h3
    simpa using h3
theorem Own.to_row {w : World} {base g n cap : Nat} {xs : List Nat} (h : Own w g xs) (hsz : ∀ cur, w.heap[g]? = some (.cells cur 31 (0, 0)) → cur.size = cap) (hb : base ≤ g) (hn : xs.length = n) (hc : cap ≤ 9223372036854775807) : w.ownsRow base 31 1 (.slice (some ⟨g, 0, none⟩) n cap) n (lits xs) := by
  obtain ⟨cur, h1, h2, h3⟩ := h
  have hs := hsz cur h1
  refine ⟨by simp [lits_length, hn], .inr ⟨g, cap, cur, rfl, hb, h1, by omega, by unfold maxLen; omega, by simpa using hs, ?_⟩⟩
  apply List.ext_getElem?
  intro j
  rw [List.getElem?_take, lits_get]
  by_cases hj : j < xs.length
  · rw [if_pos (by omega), if_pos hj, ← h3 j hj]; simp
  · rw [if_neg (by omega), if_neg hj]

/-- old cells and marks read as before -/
theorem bcell {W w1 : World} (hb : Below W.heap.size W w1) : (∀ b o, b < W.heap.size → w1.cell? ⟨b, o, none⟩ = W.cell? ⟨b, o, none⟩) ∧ (∀ b o, b < W.heap.size → w1.frozen? ⟨b, o, none⟩ = W.frozen? ⟨b, o, none⟩) :=
  ⟨fun b o h => hb.cell (p := ⟨b, o, none⟩) h, fun b o h => hb.frozen (p := ⟨b, o, none⟩) h⟩
theorem ret_len {ao : Option Addr} {n m cap : Nat} (h : n = m) : Ending.returned (.slice ao n cap) = .returned (.slice ao m cap) := by rw [h]
theorem ret_eq {v u : Value} (h : v = u) : Ending.returned v = .returned u := by rw [h]

theorem or_join (a b : Nat) (ha : a < 4294967296) (hb : b < 4294967296) : bits BinOp.or IntKind.u64 ((a : Int) * 4294967296) (b : Int) = ((b + a * 4294967296 : Nat) : Int) := by
  have h := u64_or_nat (a * 4294967296) b (by omega) (by omega)
  have h2 := Nat.two_pow_add_eq_or_of_lt (i := 32) (b := b) (by omega) a
  have e : a * 4294967296 = 2 ^ 32 * a := by omega
  rw [e, ← h2] at h
  have e2 : b + a * 4294967296 = 2 ^ 32 * a + b := by omega
  rw [e2, ← h]
  congr 1
  omega
theorem and_mask (a : Nat) (ha : a < 18446744073709551616) : bits BinOp.and IntKind.u64 (a : Int) 4294967295 = ((a % 4294967296 : Nat) : Int) := by
  have h := u64_and_nat a 4294967295 ha (by omega)
  have h2 := Nat.and_two_pow_sub_one_eq_mod a 32
  have e : (2 : Nat) ^ 32 - 1 = 4294967295 := by omega
  have e3 : (2 : Nat) ^ 32 = 4294967296 := by omega
  rw [e, e3] at h2
  rw [h2] at h
  exact h

theorem grownBy_trans {a b c : World} {row : Option Nat} (h : a.grownBy b row) (k : b.grownBy c row) : a.grownBy c row :=
  ⟨k.os.trans h.os, k.tape.trans h.tape, k.output.trans h.output, Nat.le_trans h.size k.size, fun i hi hne => (k.block i (Nat.lt_of_lt_of_le hi h.size) hne).trans (h.block i hi hne)⟩
theorem grownBy_set {w w' : World} {b : Nat} (h : w.grownBy w' (some b)) (j : Nat) (u : Value) : w.grownBy (w'.setCell ⟨b, j, none⟩ u) (some b) :=
  grownBy_trans h ⟨rfl, rfl, rfl, by simp, fun i _ hne => Below.heap_setCell _ _ _ _ (fun e => hne (by rw [e]))⟩
theorem grownBy_below {w w' : World} {B : Nat} (h : Below B w w') (hB : w.heap.size ≤ B) (row : Option Nat) : w.grownBy w' row :=
  ⟨h.os, h.tape, h.output, h.size, fun i hi _ => h.block i (by omega)⟩
theorem Rd.grown {w w' : World} {ao : Option Addr} {cap : Nat} {xs : List Nat} {row : Option Nat} (h : Rd w ao cap xs) (hg : w.grownBy w' row) (hne : ∀ b o, ao = some ⟨b, o, none⟩ → some b ≠ row) : Rd w' ao cap xs :=
  h.cells fun b o i e hlt => World.cell?_of_block (a := ⟨b, o + i, none⟩) (hg.block b hlt (hne b o e))
theorem Own.grown {w w' : World} {b : Nat} {cs : List Nat} {row : Option Nat} (h : Own w b cs) (hg : w.grownBy w' row) (hne : some b ≠ row) : Own w' b cs := h.block (hg.block b h.lt hne)

theorem Fr.grown {B : Nat} {w w' : World} {ao : Option Addr} {cap : Nat} {xs : List Nat} {row : Option Nat} (h : Fr B w ao cap xs) (hg : w.grownBy w' row) (hne : ∀ a, ao = some a → some a.block ≠ row) : Fr B w' ao cap xs := by
  obtain ⟨h1, h2, h3, h4⟩ := h
  refine ⟨h1, h2, h3, ?_⟩
  rcases h4 with h | ⟨b, rfl, hB, h⟩
  · exact .inl h
  · exact .inr ⟨b, rfl, hB, h.grown hg (hne _ rfl)⟩
theorem Fr.alloc {B : Nat} {w : World} {ao : Option Addr} {cap : Nat} {xs : List Nat} (h : Fr B w ao cap xs) (o : Obj) : Fr B (w.alloc o) ao cap xs := h.below ((Below.refl _ _).alloc (Nat.le_refl _) o)
theorem Fr.block_lt {B : Nat} {w : World} {a : Addr} {cap : Nat} {xs : List Nat} (h : Fr B w (some a) cap xs) : B ≤ a.block ∧ a.block < w.heap.size := by
  rcases h.2.2.2 with ⟨k, _⟩ | ⟨b, e, hB, k⟩
  · cases k
  · cases e; exact ⟨hB, k.lt⟩
theorem Fr.lims {B : Nat} {w : World} {ao : Option Addr} {cap : Nat} {xs : List Nat} (h : Fr B w ao cap xs) : Lims xs := h.2.2.1
end Go.Proofs.YtlgcflapgdkghabDoor
