import Derived.Test.YtdcnkebcpaelpaaGreatDoorMaths
import Derived.Test.YtdcnkebcpaelpaaGreatDoorChecked
import Derived.WalkKit
import Derived.WalkSpells
import Derived.WalkLawsBesides
import Derived.Lib.Hide
import Derived.Laws.BitsAllLaws
import Derived.Laws.AppendOwnNone
/- What memory holds: a slice of limbs that can be read; a block of the call's own that can be written. -/
namespace Go.Proofs.YtdcnkebcpaelpaaGreatDoor
open Go.RowKit

/-- the slice at ao, of capacity cap, reads xs -/
def Rd (w : World) (ao : Option Addr) (cap : Nat) (xs : List Nat) : Prop :=
  xs.length ≤ cap ∧ cap ≤ 9223372036854775807 ∧ Lims xs ∧
    ((xs = [] ∧ (ao = none → cap = 0)) ∨ ∃ b o, ao = some ⟨b, o, none⟩ ∧ ∀ i, i < xs.length → w.cell? ⟨b, o + i, none⟩ = some (.int .u32 ((lm xs i : Nat) : Int)))

theorem Rd.at {w : World} {ao : Option Addr} {cap : Nat} {xs : List Nat} (h : Rd w ao cap xs) (hn : 0 < xs.length) :
    ∃ b o, ao = some ⟨b, o, none⟩ ∧ ∀ i, i < xs.length → w.cell? ⟨b, o + i, none⟩ = some (.int .u32 ((lm xs i : Nat) : Int)) := by
  rcases h.2.2.2 with ⟨rfl, _⟩ | h
  · simp at hn
  · exact h
theorem Rd.lims {w : World} {ao : Option Addr} {cap : Nat} {xs : List Nat} (h : Rd w ao cap xs) : Lims xs := h.2.2.1
theorem Rd.le {w : World} {ao : Option Addr} {cap : Nat} {xs : List Nat} (h : Rd w ao cap xs) : xs.length ≤ cap := h.1
theorem Rd.max {w : World} {ao : Option Addr} {cap : Nat} {xs : List Nat} (h : Rd w ao cap xs) : cap ≤ 9223372036854775807 := h.2.1
theorem Rd.none_nil {w : World} {cap : Nat} {xs : List Nat} (h : Rd w none cap xs) : xs = [] ∧ cap = 0 := by
  rcases h.2.2.2 with ⟨rfl, h2⟩ | ⟨b, o, h2, _⟩
  · exact ⟨rfl, h2 rfl⟩
  · cases h2

/-- a world whose cells at the slice's own block read as before -/
theorem Rd.cells {w w' : World} {ao : Option Addr} {cap : Nat} {xs : List Nat} (h : Rd w ao cap xs)
    (hk : ∀ b o i, ao = some ⟨b, o, none⟩ → b < w.heap.size → w'.cell? ⟨b, o + i, none⟩ = w.cell? ⟨b, o + i, none⟩) : Rd w' ao cap xs := by
  refine ⟨h.1, h.2.1, h.2.2.1, ?_⟩
  rcases h.2.2.2 with hn | ⟨b, o, rfl, hc⟩
  · exact .inl hn
  · exact .inr ⟨b, o, rfl, fun i hi => (hk b o i rfl (World.block_lt_of_cell? w _ (hc i hi))).trans (hc i hi)⟩
theorem Rd.below {w w' : World} {ao : Option Addr} {cap : Nat} {xs : List Nat} (h : Rd w ao cap xs) (hb : Below w.heap.size w w') : Rd w' ao cap xs :=
  h.cells fun b o i _ hlt => hb.cell (p := ⟨b, o + i, none⟩) hlt
theorem Rd.alloc {w : World} {ao : Option Addr} {cap : Nat} {xs : List Nat} (h : Rd w ao cap xs) (o : Obj) : Rd (w.alloc o) ao cap xs :=
  h.below ((Below.refl _ _).alloc (Nat.le_refl _) o)
theorem Rd.drew {w : World} {ao : Option Addr} {cap : Nat} {xs : List Nat} (h : Rd w ao cap xs) : Rd w.drew ao cap xs := h
/-- a part from the head -/
theorem Rd.take {w : World} {ao : Option Addr} {cap : Nat} {xs : List Nat} (h : Rd w ao cap xs) (k : Nat) : Rd w ao cap (xs.take k) := by
  refine ⟨Nat.le_trans (List.length_take_le' _ _) h.1, h.2.1, lims_take h.2.2.1 _, ?_⟩
  rcases h.2.2.2 with ⟨rfl, hn⟩ | ⟨b, o, rfl, hc⟩
  · exact .inl ⟨by simp, hn⟩
  · refine .inr ⟨b, o, rfl, fun i hi => ?_⟩
    have hi' : i < k ∧ i < xs.length := by rw [List.length_take] at hi; omega
    rw [lm_take, if_pos hi'.1]
    exact hc i hi'.2
theorem Rd.trim {w : World} {ao : Option Addr} {cap : Nat} {xs : List Nat} (h : Rd w ao cap xs) : Rd w ao cap (trim xs) := h.take _
theorem Rd.nil (w : World) : Rd w none 0 [] := ⟨by simp, by omega, lims_nil, .inl ⟨rfl, fun _ => rfl⟩⟩
/-- the slice's block lies among those that are there -/
theorem Rd.lt {w : World} {b o cap : Nat} {xs : List Nat} (h : Rd w (some ⟨b, o, none⟩) cap xs) (hn : 0 < xs.length) : b < w.heap.size := by
  obtain ⟨b', o', e, hc⟩ := h.at hn
  cases e
  exact World.block_lt_of_cell? w _ (hc 0 hn)

/-- block b is the call's own: it can be written, and its first cells read cs -/
def Own (w : World) (b : Nat) (cs : List Nat) : Prop :=
  ∃ cur, w.heap[b]? = some (.cells cur 35 (0, 0)) ∧ cs.length ≤ cur.size ∧ ∀ j, j < cs.length → cur[j]? = some (.int .u32 ((lm cs j : Nat) : Int))

theorem Own.lt {w : World} {b : Nat} {cs : List Nat} (h : Own w b cs) : b < w.heap.size := by
  obtain ⟨cur, h1, _⟩ := h
  exact (Array.getElem?_eq_some_iff.1 h1).1
theorem Own.cell {w : World} {b : Nat} {cs : List Nat} (h : Own w b cs) {j : Nat} (hj : j < cs.length) : w.cell? ⟨b, j, none⟩ = some (.int .u32 ((lm cs j : Nat) : Int)) := by
  obtain ⟨cur, h1, _, h3⟩ := h
  simp [World.cell?, h1, h3 j hj]
theorem Own.frozen {w : World} {b : Nat} {cs : List Nat} (h : Own w b cs) (j : Nat) : w.frozen? ⟨b, j, none⟩ = false := by
  obtain ⟨cur, h1, _⟩ := h
  simp [World.frozen?, h1]
theorem Own.setCell {w : World} {b : Nat} {cs : List Nat} (h : Own w b cs) {j : Nat} (hj : j < cs.length) (x : Nat) : Own (w.setCell ⟨b, j, none⟩ (.int .u32 (x : Int))) b (cs.set j x) := by
  obtain ⟨cur, h1, h2, h3⟩ := h
  refine ⟨cur.setIfInBounds j (.int .u32 (x : Int)), ?_, by simpa using h2, ?_⟩
  · simp [World.setCell, Array.getElem?_modify, h1]
  · intro i hi
    rw [List.length_set] at hi
    rw [lm_set cs j x i hj, Array.getElem?_setIfInBounds]
    by_cases e : j = i
    · subst e
      rw [if_pos rfl, if_pos rfl]
      rw [if_pos (by omega)]
    · rw [if_neg e, if_neg (fun q => e q.symm)]
      exact h3 i hi
theorem Own.block {w w' : World} {b : Nat} {cs : List Nat} (h : Own w b cs) (e : w'.heap[b]? = w.heap[b]?) : Own w' b cs := by
  obtain ⟨cur, h1, h2⟩ := h
  exact ⟨cur, e.trans h1, h2⟩
theorem Own.below {B : Nat} {w w' : World} {b : Nat} {cs : List Nat} (h : Own w b cs) (hb : Below B w w') (hB : b < B) : Own w' b cs := h.block (hb.block b hB)
theorem Own.drew {w : World} {b : Nat} {cs : List Nat} (h : Own w b cs) : Own w.drew b cs := h
theorem Own.alloc {w : World} {b : Nat} {cs : List Nat} (h : Own w b cs) (o : Obj) : Own (w.alloc o) b cs := h.block (Below.heap_alloc w o b h.lt)
theorem Own.take {w : World} {b : Nat} {cs : List Nat} (h : Own w b cs) (k : Nat) : Own w b (cs.take k) := by
  obtain ⟨cur, h1, h2, h3⟩ := h
  refine ⟨cur, h1, Nat.le_trans (List.length_take_le' _ _) h2, fun j hj => ?_⟩
  have hj' : j < k ∧ j < cs.length := by rw [List.length_take] at hj; omega
  rw [lm_take, if_pos hj'.1]
  exact h3 j hj'.2
/-- what is owned can be read, from any place on -/
theorem Own.rd {w : World} {b : Nat} {cs : List Nat} (h : Own w b cs) (hl : Lims cs) (cap : Nat) (h1 : cs.length ≤ cap) (h2 : cap ≤ 9223372036854775807) : Rd w (some ⟨b, 0, none⟩) cap cs :=
  ⟨h1, h2, hl, .inr ⟨b, 0, rfl, fun i hi => by rw [Nat.zero_add]; exact h.cell hi⟩⟩

/-- a result: a slice of the call's own, from block B on, that reads xs -/
def Fr (B : Nat) (w : World) (ao : Option Addr) (cap : Nat) (xs : List Nat) : Prop :=
  xs.length ≤ cap ∧ cap ≤ 9223372036854775807 ∧ Lims xs ∧ ((ao = none ∧ xs = [] ∧ cap = 0) ∨ ∃ b, ao = some ⟨b, 0, none⟩ ∧ B ≤ b ∧ Own w b xs)
theorem Fr.rd {B : Nat} {w : World} {ao : Option Addr} {cap : Nat} {xs : List Nat} (h : Fr B w ao cap xs) : Rd w ao cap xs := by
  obtain ⟨h1, h2, h3, h4⟩ := h
  rcases h4 with ⟨rfl, rfl, rfl⟩ | ⟨b, rfl, _, h⟩
  · exact Rd.nil w
  · exact h.rd h3 _ h1 h2
theorem Fr.mono {B B' : Nat} {w : World} {ao : Option Addr} {cap : Nat} {xs : List Nat} (h : Fr B w ao cap xs) (hB : B' ≤ B) : Fr B' w ao cap xs := by
  obtain ⟨h1, h2, h3, h4⟩ := h
  refine ⟨h1, h2, h3, ?_⟩
  rcases h4 with h | ⟨b, rfl, hb, h⟩
  · exact .inl h
  · exact .inr ⟨b, rfl, by omega, h⟩
theorem Fr.below {B : Nat} {w w' : World} {ao : Option Addr} {cap : Nat} {xs : List Nat} (h : Fr B w ao cap xs) (hb : Below w.heap.size w w') : Fr B w' ao cap xs := by
  obtain ⟨h1, h2, h3, h4⟩ := h
  refine ⟨h1, h2, h3, ?_⟩
  rcases h4 with h | ⟨b, rfl, hB, h⟩
  · exact .inl h
  · exact .inr ⟨b, rfl, hB, h.below hb h.lt⟩
theorem Fr.take {B : Nat} {w : World} {ao : Option Addr} {cap : Nat} {xs : List Nat} (h : Fr B w ao cap xs) (k : Nat) : Fr B w ao cap (xs.take k) := by
  obtain ⟨h1, h2, h3, h4⟩ := h
  refine ⟨Nat.le_trans (List.length_take_le' _ _) h1, h2, lims_take h3 _, ?_⟩
  rcases h4 with ⟨rfl, rfl, rfl⟩ | ⟨b, rfl, hB, h⟩
  · exact .inl ⟨rfl, by simp, rfl⟩
  · exact .inr ⟨b, rfl, hB, h.take k⟩
theorem Fr.trim {B : Nat} {w : World} {ao : Option Addr} {cap : Nat} {xs : List Nat} (h : Fr B w ao cap xs) : Fr B w ao cap (trim xs) := h.take _
theorem Fr.of_own {B : Nat} {w : World} {b : Nat} {cs : List Nat} (h : Own w b cs) (hl : Lims cs) (hB : B ≤ b) (cap : Nat) (h1 : cs.length ≤ cap) (h2 : cap ≤ 9223372036854775807) : Fr B w (some ⟨b, 0, none⟩) cap cs :=
  ⟨h1, h2, hl, .inr ⟨b, rfl, hB, h⟩⟩
theorem Fr.nil (B : Nat) (w : World) : Fr B w none 0 [] := ⟨by simp, by omega, lims_nil, .inl ⟨rfl, rfl, rfl⟩⟩

/-- the value that a list of limbs stands for -/
def lits (xs : List Nat) : List Value := xs.map fun x => Value.int .u32 ((x : Nat) : Int)
theorem lits_get (xs : List Nat) (j : Nat) : (lits xs)[j]? = if j < xs.length then some (.int .u32 ((lm xs j : Nat) : Int)) else none := by
  unfold lits lm
  rw [List.getElem?_map]
  by_cases h : j < xs.length
  · simp [h, List.getD]
  · simp [h]
theorem lits_length (xs : List Nat) : (lits xs).length = xs.length := by simp [lits]

/-- from the kit's word for what a call owns -/
theorem Own.of_row {w : World} {base : Nat} {g n cap : Nat} {xs : List Nat} (h : w.ownsRow base 35 1 (.slice (some ⟨g, 0, none⟩) n cap) n (lits xs)) : Own w g xs ∧ base ≤ g ∧ n ≤ cap ∧ cap ≤ 9223372036854775807 ∧ xs.length = n := by
  obtain ⟨h1, h2⟩ := h
  have hlen : xs.length = n := by simpa [lits_length] using h1
  rcases h2 with ⟨h2, _⟩ | ⟨g', cap', cur, hv, hb, hg, hn, hc, hs, ht⟩
  · cases h2
  · cases hv
    have hs' : cur.size = cap := by simpa using hs
    refine ⟨⟨cur, hg, by omega, fun j hj => ?_⟩, hb, hn, by unfold maxLen at hc; omega, hlen⟩
    have h3 := congrArg (fun l => l[j]?) ht
    simp only [List.getElem?_take, lits_get] at h3
    rw [if_pos (by omega), if_pos hj] at h3
    simpa using h3
theorem Own.to_row {w : World} {base g n cap : Nat} {xs : List Nat} (h : Own w g xs) (hsz : ∀ cur, w.heap[g]? = some (.cells cur 35 (0, 0)) → cur.size = cap) (hb : base ≤ g) (hn : xs.length = n) (hc : cap ≤ 9223372036854775807) : w.ownsRow base 35 1 (.slice (some ⟨g, 0, none⟩) n cap) n (lits xs) := by
  obtain ⟨cur, h1, h2, h3⟩ := h
  have hs := hsz cur h1
  refine ⟨by simp [lits_length, hn], .inr ⟨g, cap, cur, rfl, hb, h1, by omega, by unfold maxLen; omega, by simpa using hs, ?_⟩⟩
  apply List.ext_getElem?
  intro j
  rw [List.getElem?_take, lits_get]
  by_cases hj : j < xs.length
  · rw [if_pos (by omega), if_pos hj, ← h3 j hj]; simp
  · rw [if_neg (by omega), if_neg hj]

/-- old cells and marks read as before -/
theorem bcell {W w1 : World} (hb : Below W.heap.size W w1) : (∀ b o, b < W.heap.size → w1.cell? ⟨b, o, none⟩ = W.cell? ⟨b, o, none⟩) ∧ (∀ b o, b < W.heap.size → w1.frozen? ⟨b, o, none⟩ = W.frozen? ⟨b, o, none⟩) :=
  ⟨fun b o h => hb.cell (p := ⟨b, o, none⟩) h, fun b o h => hb.frozen (p := ⟨b, o, none⟩) h⟩
theorem ret_len {ao : Option Addr} {n m cap : Nat} (h : n = m) : Ending.returned (.slice ao n cap) = .returned (.slice ao m cap) := by rw [h]
theorem ret_eq {v u : Value} (h : v = u) : Ending.returned v = .returned u := by rw [h]

theorem or_join (a b : Nat) (ha : a < 4294967296) (hb : b < 4294967296) : bits BinOp.or IntKind.u64 ((a : Int) * 4294967296) (b : Int) = ((b + a * 4294967296 : Nat) : Int) := by
  have h := u64_or_nat (a * 4294967296) b (by omega) (by omega)
  have h2 := Nat.two_pow_add_eq_or_of_lt (i := 32) (b := b) (by omega) a
  have e : a * 4294967296 = 2 ^ 32 * a := by omega
  rw [e, ← h2] at h
  have e2 : b + a * 4294967296 = 2 ^ 32 * a + b := by omega
  rw [e2, ← h]
  congr 1
  omega
theorem and_mask (a : Nat) (ha : a < 18446744073709551616) : bits BinOp.and IntKind.u64 (a : Int) 4294967295 = ((a % 4294967296 : Nat) : Int) := by
  have h := u64_and_nat a 4294967295 ha (by omega)
  have h2 := Nat.and_two_pow_sub_one_eq_mod a 32
  have e : (2 : Nat) ^ 32 - 1 = 4294967295 := by omega
  have e3 : (2 : Nat) ^ 32 = 4294967296 := by omega
  rw [e, e3] at h2
  rw [h2] at h
  exact h

theorem grownBy_trans {a b c : World} {row : Option Nat} (h : a.grownBy b row) (k : b.grownBy c row) : a.grownBy c row :=
  ⟨k.os.trans h.os, k.tape.trans h.tape, k.output.trans h.output, Nat.le_trans h.size k.size, fun i hi hne => (k.block i (Nat.lt_of_lt_of_le hi h.size) hne).trans (h.block i hi hne)⟩
theorem grownBy_set {w w' : World} {b : Nat} (h : w.grownBy w' (some b)) (j : Nat) (u : Value) : w.grownBy (w'.setCell ⟨b, j, none⟩ u) (some b) :=
  grownBy_trans h ⟨rfl, rfl, rfl, by simp, fun i _ hne => Below.heap_setCell _ _ _ _ (fun e => hne (by rw [e]))⟩
theorem grownBy_below {w w' : World} {B : Nat} (h : Below B w w') (hB : w.heap.size ≤ B) (row : Option Nat) : w.grownBy w' row :=
  ⟨h.os, h.tape, h.output, h.size, fun i hi _ => h.block i (by omega)⟩
theorem Rd.grown {w w' : World} {ao : Option Addr} {cap : Nat} {xs : List Nat} {row : Option Nat} (h : Rd w ao cap xs) (hg : w.grownBy w' row) (hne : ∀ b o, ao = some ⟨b, o, none⟩ → some b ≠ row) : Rd w' ao cap xs :=
  h.cells fun b o i e hlt => World.cell?_of_block (a := ⟨b, o + i, none⟩) (hg.block b hlt (hne b o e))
theorem Own.grown {w w' : World} {b : Nat} {cs : List Nat} {row : Option Nat} (h : Own w b cs) (hg : w.grownBy w' row) (hne : some b ≠ row) : Own w' b cs := h.block (hg.block b h.lt hne)

theorem Fr.grown {B : Nat} {w w' : World} {ao : Option Addr} {cap : Nat} {xs : List Nat} {row : Option Nat} (h : Fr B w ao cap xs) (hg : w.grownBy w' row) (hne : ∀ a, ao = some a → some a.block ≠ row) : Fr B w' ao cap xs := by
  obtain ⟨h1, h2, h3, h4⟩ := h
  refine ⟨h1, h2, h3, ?_⟩
  rcases h4 with h | ⟨b, rfl, hB, h⟩
  · exact .inl h
  · exact .inr ⟨b, rfl, hB, h.grown hg (hne _ rfl)⟩
theorem Fr.alloc {B : Nat} {w : World} {ao : Option Addr} {cap : Nat} {xs : List Nat} (h : Fr B w ao cap xs) (o : Obj) : Fr B (w.alloc o) ao cap xs := h.below ((Below.refl _ _).alloc (Nat.le_refl _) o)
theorem Fr.block_lt {B : Nat} {w : World} {a : Addr} {cap : Nat} {xs : List Nat} (h : Fr B w (some a) cap xs) : B ≤ a.block ∧ a.block < w.heap.size := by
  rcases h.2.2.2 with ⟨k, _⟩ | ⟨b, e, hB, k⟩
  · cases k
  · cases e; exact ⟨hB, k.lt⟩
theorem Fr.lims {B : Nat} {w : World} {ao : Option Addr} {cap : Nat} {xs : List Nat} (h : Fr B w ao cap xs) : Lims xs := h.2.2.1
end Go.Proofs.YtdcnkebcpaelpaaGreatDoor
/- Contracts of package natural, first part: limbs, canonical forms, order, sums. -/
namespace Go.Proofs.YtdcnkebcpaelpaaGreatDoor
open Go.RowKit

theorem infoU32 : (Tryz.prog.info? 35).map (fun i => (i.zero, i.size, i.bytes)) = some (some (.int .u32 0), 1, 4) := by kernel_rfl

theorem Fr.of_row {w : World} {base n : Nat} {v : Value} {xs : List Nat} (h : w.ownsRow base 35 1 v n (lits xs)) (hl : Lims xs) :
    ∃ ao cap, v = .slice ao n cap ∧ Fr base w ao cap xs ∧ xs.length = n := by
  have hlen : xs.length = n := by simpa [lits_length] using h.1
  rcases h.2 with ⟨rfl, rfl⟩ | ⟨g, cap, cur, rfl, h3⟩
  · have : xs = [] := List.eq_nil_of_length_eq_zero hlen
    subst this
    exact ⟨none, 0, rfl, Fr.nil _ _, rfl⟩
  · obtain ⟨h4, h5, h6, h7, h8⟩ := Own.of_row h
    exact ⟨_, cap, rfl, Fr.of_own h4 hl h5 cap (by omega) h7, hlen⟩

/-- append of a slice of limbs onto a nil one -/
theorem wp_append_rd (w : World) {ops : Array Oper} {rest : List Oper} {o : Oper} {a : Act} {Q : Exit → Act → World → Prop} (hg : o.guard = none) (s x : Operand) (t : TypeId)
    (ho : o.op = .call { callee := .builtin .append, args := #[s, x], argTypes := #[t, t] }) (ht : Tryz.prog.underlying t = some (.slice 35))
    (hs : a.eval s = .slice none 0 0) (ao : Option Addr) (cap : Nat) (xs : List Nat) (m : Nat) (hx : a.eval x = .slice ao m cap) (hm : xs.length = m) (hr : Rd w ao cap xs) (hb : xs.length ≤ 1099511627776)
    (h : ∀ ao' cap' w', Fr w.heap.size w' ao' cap' xs → Below w.heap.size w w' → wpList Tryz.prog ops Q rest (a.put o.dst (.slice ao' m cap')) w') : wpList Tryz.prog ops Q (o :: rest) a w := by
  obtain ⟨i0, hi, hz0, hz1, hz2⟩ := info_parts infoU32
  have hown := World.ownsRow_nil w w.heap.size 35 1
  subst hm
  cases ao with
  | none =>
    obtain ⟨rfl, rfl⟩ := hr.none_nil
    refine wpList_append_own_none hg s x t ho w.heap.size 35 i0 1 ht hi _ 0 [] hs hown hx ?_
    exact h none 0 w (Fr.nil _ _) (Below.refl _ _)
  | some ad =>
    refine wpList_append_own w hg s x t ho w.heap.size 35 i0 (.int .u32 0) 1 4 ht hi hz0 hz1 hz2 rfl (by omega) _ 0 [] hs hown ad xs.length cap (lits xs) hx (by simp [lits_length]) ?_ ?_ (by unfold maxLen; omega) (by omega) (Nat.le_refl _) ?_
    · intro j u hj
      rw [lits_get] at hj
      by_cases hl : j < xs.length
      · rw [if_pos hl] at hj
        cases hj
        obtain ⟨b, o', e, hc⟩ := hr.at (by omega)
        cases e
        rw [Addr.add_lit]
        exact hc j hl
      · rw [if_neg hl] at hj; cases hj
    · intro u hu
      obtain ⟨_, _, rfl⟩ := List.mem_map.1 hu
      rfl
    · intro v' w' h1 h2 _
      simp only [Nat.zero_add, List.nil_append] at h1
      obtain ⟨ao', cap', rfl, hf, _⟩ := Fr.of_row h1 hr.lims
      exact h ao' cap' w' hf ((Below.refl _ _).grown h2 (Nat.le_refl _) (fun k hk => by cases hk))

theorem sz_step {xs : List Nat} {k : Nat} (h0 : 0 < k) (hz : lm xs (k - 1) = 0) : sz xs (k - 1) = sz xs k := by
  obtain ⟨j, rfl⟩ : ∃ j, k = j + 1 := ⟨k - 1, by omega⟩
  have e : j + 1 - 1 = j := by omega
  rw [e] at hz ⊢
  exact (if_pos hz).symm
theorem sz_stop {xs : List Nat} {k : Nat} (h0 : 0 < k) (hz : ¬ lm xs (k - 1) = 0) : sz xs k = k := by
  obtain ⟨j, rfl⟩ : ∃ j, k = j + 1 := ⟨k - 1, by omega⟩
  have e : j + 1 - 1 = j := by omega
  rw [e] at hz
  exact if_neg hz

set_option maxHeartbeats 400000 in
theorem limb_any (ao : Option Addr) (cap i : Nat) (xs : List Nat) (w : World) (h : Rd w ao cap xs) (n : Int) (hn : n = i) :
    Calls Tryz.prog 65 #[.slice ao xs.length cap, .int .i64 n] w fun e w' => e = .returned (.int .u64 ((lm xs i : Nat) : Int)) ∧ w = w' := by
  subst hn
  have hm := h.max
  have hle := h.le
  by_cases hi : i < xs.length
  · obtain ⟨b, o, rfl, hc⟩ := h.at (by omega)
    have hci := hc i hi
    have hx := h.lims i
    clear hc h
    go_enter Tryz.func65, Tryz.ntmps65
    go_wp2
    go_ret
    exact ⟨rfl, rfl⟩
  · have hz := lm_ge xs i (by omega)
    rw [hz]
    clear h hz
    go_enter Tryz.func65, Tryz.ntmps65
    go_wp2
    go_ret
    exact ⟨rfl, rfl⟩

set_option maxHeartbeats 400000 in
theorem significant_any (ao : Option Addr) (cap : Nat) (xs : List Nat) (w : World) (h : Rd w ao cap xs) :
    Calls Tryz.prog 39 #[.slice ao xs.length cap] w fun e w' => e = .returned (.slice ao (trim xs).length cap) ∧ w = w' := by
  have hm := h.max
  have hle := h.le
  go_enter Tryz.func39, Tryz.ntmps39
  go_wp2
  go_loop [3] (fun s => ∃ k : Nat, k ≤ xs.length ∧ s = .int .i64 k ∧ Hid (sz xs k = sz xs xs.length)) (fun s => (intOf s).toNat)
  case atStart => exact ⟨xs.length, Nat.le_refl _, rfl, rfl⟩
  case round =>
    obtain ⟨k, hk, rfl, hs⟩ := hrel
    by_cases hk0 : 0 < k
    · obtain ⟨b, o, rfl, hc⟩ := h.at (by omega)
      have hci := hc (k - 1) (by omega)
      clear hc
      have hx := h.lims (k - 1)
      by_cases hz : lm xs (k - 1) = 0
      · have hd : (((lm xs (k - 1) : Nat) : Int) == 0) = true := by simp [hz]
        have hs2 : Hid (sz xs (k - 1) = sz xs xs.length) := (sz_step hk0 hz).trans hs.out
        clear hz
        go_wp2
        go_round
        case rel => exact ⟨k - 1, by omega, by go_num, hs2⟩
        case measure => simp [intOf]; omega
      · have hd : (((lm xs (k - 1) : Nat) : Int) == 0) = false := by simp [hz]
        have hs2 : Hid ((trim xs).length = k) := (trim_length xs).trans (hs.out.symm.trans (sz_stop hk0 hz))
        clear hz
        go_wp2
        go_ret
        exact ⟨ret_len hs2.out.symm, rfl⟩
    · obtain rfl : k = 0 := by omega
      have hs2 : Hid ((trim xs).length = 0) := (trim_length xs).trans hs.out.symm
      go_wp2
      go_ret
      exact ⟨ret_len hs2.out.symm, rfl⟩

set_option maxHeartbeats 400000 in
/-- Trim -/
theorem Trim_any (ao : Option Addr) (cap : Nat) (xs : List Nat) (w : World) (h : Rd w ao cap xs) (hb : xs.length ≤ 1099511627776) :
    Calls Tryz.prog 45 #[.slice ao xs.length cap] w fun e w' => ∃ ao' cap', e = .returned (.slice ao' (dig (val xs)).length cap') ∧ Fr w.heap.size w' ao' cap' (dig (val xs)) ∧ Below w.heap.size w w' := by
  have ht := Lib.hid (trim_dig h.lims)
  have hl := trim_length_le xs
  go_enter Tryz.func45, Tryz.ntmps45
  go_wp2_with (first
    | (go_at_call 39; refine (significant_any _ _ _ _ h).mono ?_; rintro e w' ⟨rfl, rfl⟩)
    | (at_builtin; refine wp_append_rd _ rfl _ _ 23 rfl Tryz.underlying23 rfl ao cap (trim xs) _ rfl rfl h.trim (by omega) ?_; intro ao' cap' w1 hf hb1))
  go_ret
  rw [ht.out] at hf
  exact ⟨ao', cap', ret_len (congrArg List.length ht.out), hf, hb1⟩

theorem significant_len (ao : Option Addr) (cap : Nat) (xs : List Nat) (w : World) (h : Rd w ao cap xs) (n : Nat) (hn : n = xs.length) :
    Calls Tryz.prog 39 #[.slice ao n cap] w fun e w' => e = .returned (.slice ao (trim xs).length cap) ∧ w = w' := by
  subst hn; exact significant_any ao cap xs w h

/-- a new block of limbs -/
theorem Own.new (w : World) (xs : List Nat) : Own (w.alloc (.cells (lits xs).toArray 35)) w.heap.size xs := by
  refine ⟨_, heap_alloc_new w _, by simp [lits_length], fun j hj => ?_⟩
  rw [List.getElem?_toArray, lits_get, if_pos hj]

set_option maxHeartbeats 400000 in
theorem FromUint_any (v : Int) (h0 : 0 ≤ v) (h1 : v ≤ 18446744073709551615) (w : World) :
    Calls Tryz.prog 41 #[.int .u64 v] w fun e w' => ∃ ao' cap', e = .returned (.slice ao' (dig v.toNat).length cap') ∧ Fr w.heap.size w' ao' cap' (dig v.toNat) ∧ Below w.heap.size w w' := by
  obtain ⟨n, rfl⟩ := Int.eq_ofNat_of_zero_le h0
  have hl : Lims [n % 4294967296, n / 4294967296] := lims_cons (by omega) (lims_cons (by omega) lims_nil)
  have hv : val [n % 4294967296, n / 4294967296] = n := by simp only [val]; omega
  have hown := Own.new w [n % 4294967296, n / 4294967296]
  have e : (lits [n % 4294967296, n / 4294967296]).toArray = #[.int .u32 ((n : Int) % 4294967296), .int .u32 ((n : Int) / 4294967296)] := by simp [lits]
  rw [e] at hown; clear e
  have hfr := Fr.of_own (B := w.heap.size) hown hl (Nat.le_refl _) 2 (by simp) (by omega)
  have hrd := hfr.rd
  have ht := Lib.hid ((trim_dig hl).trans (by rw [hv])); clear hv
  rw [Int.toNat_natCast]
  go_enter Tryz.func41, Tryz.ntmps41
  go_wp2_with (go_at_call 39; refine (significant_len _ _ _ _ hrd _ rfl).mono ?_; rintro e w' ⟨rfl, rfl⟩)
  go_ret
  have hfr2 := hfr.trim
  rw [ht.out] at hfr2
  exact ⟨_, 2, ret_len (congrArg List.length ht.out), hfr2, (Below.refl _ _).alloc (Nat.le_refl _) _⟩

/-- Uint's number -/
theorem vl_two (xs : List Nat) : vl xs 2 = lm xs 0 + lm xs 1 * 4294967296 := by
  simp [vl, pw]
theorem vl_trim2 (xs : List Nat) : vl (trim xs) 2 = vl xs 2 := vl_congr _ _ _ (fun j _ => lm_trim xs j)
theorem dig_small {xs : List Nat} (hl : Lims xs) : (2 < (trim xs).length) ↔ 18446744073709551616 ≤ val xs := by
  have h1 := dig_length_le (val xs) 2
  have h2 := dig_length_ge (val xs) 2
  have h3 : pw 2 = 18446744073709551616 := by simp [pw]
  rw [h3] at h1 h2
  rw [trim_dig hl]
  omega

def fits (n : Nat) : Bool := decide (n < 18446744073709551616)
def fitv (n : Nat) : Nat := if n < 18446744073709551616 then n else 0
theorem fits_yes {n : Nat} (h : n < 18446744073709551616) : fits n = true := decide_eq_true h
theorem fits_no {n : Nat} (h : ¬ n < 18446744073709551616) : fits n = false := decide_eq_false h
theorem fitv_yes {n : Nat} (h : n < 18446744073709551616) : ((fitv n : Nat) : Int) = n := congrArg Nat.cast (if_pos h)
theorem fitv_no {n : Nat} (h : ¬ n < 18446744073709551616) : ((fitv n : Nat) : Int) = 0 := congrArg Nat.cast (if_neg h)
theorem ret_ub {a b : Int} {p q : Bool} (h : a = b) (k : p = q) : Ending.returned (.tuple #[.int .u64 a, .bool p]) = .returned (.tuple #[.int .u64 b, .bool q]) := by rw [h, k]

set_option maxHeartbeats 400000 in
theorem Uint_any (ao : Option Addr) (cap : Nat) (xs : List Nat) (w : World) (h : Rd w ao cap xs) :
    Calls Tryz.prog 60 #[.slice ao xs.length cap] w fun e w' => e = .returned (.tuple #[.int .u64 ((fitv (val xs) : Nat) : Int), .bool (fits (val xs))]) ∧ w = w' := by
  have hs := dig_small h.lims
  have h0 := h.lims 0
  have h1 := h.lims 1
  have hm := h.max
  have hle := h.le
  have hl := trim_length_le xs
  by_cases hb : 18446744073709551616 ≤ val xs
  · have hb2 : 2 < (trim xs).length := hs.2 hb
    have e1 := Lib.hid (fits_no (n := val xs) (by omega))
    have e2 := Lib.hid (fitv_no (n := val xs) (by omega))
    clear hs hb
    go_enter Tryz.func60, Tryz.ntmps60
    go_wp2_with (go_at_call 39; refine (significant_any _ _ _ _ h).mono ?_; rintro e w' ⟨rfl, rfl⟩)
    go_ret2
    exact ⟨ret_ub e2.out.symm e1.out.symm, rfl⟩
  · have hb2 : (trim xs).length ≤ 2 := by have := mt hs.1 hb; omega
    have hv : val xs = lm xs 0 + lm xs 1 * 4294967296 := by
      rw [← vl_two, ← vl_trim2 xs, ← val_trim xs]
      exact (vl_ge _ _ hb2).symm
    have e1 := Lib.hid (fits_yes (n := val xs) (by omega))
    have e2 := Lib.hid (fitv_yes (n := val xs) (by omega))
    have hv2 := Lib.hid hv; clear hv
    clear hs hb
    go_enter Tryz.func60, Tryz.ntmps60
    go_wp2_with (first
      | (go_at_call 39; refine (significant_any _ _ _ _ h).mono ?_; rintro e w' ⟨rfl, rfl⟩)
      | (go_at_call 65; refine (limb_any _ _ 1 _ _ h _ (by omega)).mono ?_; rintro e w' ⟨rfl, rfl⟩)
      | (go_at_call 65; refine (limb_any _ _ 0 _ _ h _ (by omega)).mono ?_; rintro e w' ⟨rfl, rfl⟩))
    go_ret2
    refine ⟨ret_ub (?_ : _ = _) e1.out.symm, rfl⟩
    rw [e2.out, hv2.out]
    exact or_join _ _ h1 h0
end Go.Proofs.YtdcnkebcpaelpaaGreatDoor
namespace Go.Proofs.YtdcnkebcpaelpaaGreatDoor
open Go.RowKit
theorem ret_i64 {a b : Int} (h : a = b) : Ending.returned (.int .i64 a) = .returned (.int .i64 b) := by rw [h]

set_option maxHeartbeats 800000 in
theorem Compare_any (ao bo : Option Addr) (ca cb : Nat) (xs ys : List Nat) (w : World) (ha : Rd w ao ca xs) (hb : Rd w bo cb ys) :
    Calls Tryz.prog 58 #[.slice ao xs.length ca, .slice bo ys.length cb] w fun e w' => e = .returned (.int .i64 (cmpn (val xs) (val ys))) ∧ w = w' := by
  have hma := ha.max
  have hla := ha.le
  have hmb := hb.max
  have hlb := hb.le
  obtain ⟨m, hm1, hm2, hm3⟩ : ∃ m, xs.length ≤ m ∧ ys.length ≤ m ∧ m = max xs.length ys.length := ⟨_, by omega, by omega, rfl⟩
  have hm5 : m ≤ xs.length ∨ m ≤ ys.length := by omega
  clear hm3
  go_enter Tryz.func58, Tryz.ntmps58
  go_wp2
  all_goals
    go_loop [15] (fun si => ∃ i : Nat, i ≤ m ∧ si = .int .i64 i ∧ Hid (∀ j, m ≤ j + i → j < m → lm xs j = lm ys j)) (fun si => m - (intOf si).toNat)
    case atStart => exact ⟨0, Nat.zero_le _, rfl, fun j h1 h2 => by omega⟩
    case round =>
      obtain ⟨i, hi, rfl, he⟩ := hrel
      by_cases hlt : i < m
      · have hx := ha.lims (m - 1 - i)
        have hy := hb.lims (m - 1 - i)
        go_wp2_with fail
        refine (limb_any _ _ (m - 1 - i) _ _ ha _ (by omega)).mono ?_; rintro e w' ⟨rfl, rfl⟩
        go_wp2_with fail
        refine (limb_any _ _ (m - 1 - i) _ _ hb _ (by omega)).mono ?_; rintro e w' ⟨rfl, rfl⟩
        go_wp2_with fail
        · have h1 : lm xs (m - 1 - i) < lm ys (m - 1 - i) := by assumption
          go_ret
          exact ⟨ret_i64 (cmpn_lt (val_lt_top ha.lims (m - 1 - i) m hm1 hm2 (by omega) (fun j h2 h3 => he.out j (by omega) h3) h1)).symm, rfl⟩
        · have h1 : lm ys (m - 1 - i) < lm xs (m - 1 - i) := by assumption
          go_ret
          exact ⟨ret_i64 (cmpn_gt (val_lt_top hb.lims (m - 1 - i) m hm2 hm1 (by omega) (fun j h2 h3 => (he.out j (by omega) h3).symm) h1)).symm, rfl⟩
        · have h1 : ¬ lm xs (m - 1 - i) < lm ys (m - 1 - i) := by assumption
          have h2 : ¬ lm ys (m - 1 - i) < lm xs (m - 1 - i) := by assumption
          go_round
          case rel => exact ⟨i + 1, by omega, by go_num, fun j h3 h4 => by
            by_cases e : j = m - 1 - i
            · subst e; omega
            · exact he.out j (by omega) h4⟩
          case measure => simp [intOf]; omega
      · obtain rfl : i = m := by omega
        have hv := Lib.hid (cmpn_eq (val_eq_all i hm1 hm2 (fun j h => he.out j (by omega) h)))
        go_wp2
        go_ret
        exact ⟨ret_i64 hv.out.symm, rfl⟩

/-- make of n limbs -/
theorem Own.made {w w' : World} {n : Nat} (h : w'.ownsRow w.heap.size 35 1 (.slice (some ⟨w.heap.size, 0, none⟩) n n) n (madeCells (Value.int .u32 0).cells (n * 1)).toList) : Own w' w.heap.size (List.replicate n 0) := by
  have e : (madeCells (Value.int .u32 0).cells (n * 1)).toList = lits (List.replicate n 0) := by
    rw [show (Value.int .u32 0).cells = #[Value.int .u32 0] from rfl, toList_madeCells_one, Nat.mul_one]
    simp [lits]
  rw [e] at h
  exact (Own.of_row h).1

/-- one limb of a sum -/
theorem sum_step (V A B P x y c d c' : Nat) (h : V + c * P = A + B) (h2 : x + y + c = d + 4294967296 * c') : V + d * P + c' * (P * 4294967296) = A + x * P + (B + y * P) := by
  have h3 : (x + y + c) * P = (d + 4294967296 * c') * P := by rw [h2]
  grind

theorem add_end {xs ys cs : List Nat} {m c : Nat} (hx : Lims xs) (hy : Lims ys) (hcs : Lims cs) (h1 : xs.length ≤ m) (h2 : ys.length ≤ m) (hlen : cs.length = m + 1) (hv : vl cs (m + 1) + c * pw (m + 1) = vl xs (m + 1) + vl ys (m + 1)) :
    trim cs = dig (val xs + val ys) := by
  have e := trim_dig hcs
  rw [e]; congr 1
  rw [vl_ge xs _ (by omega), vl_ge ys _ (by omega), ← hlen, vl_all, hlen, pw_succ] at hv
  have h3 := Nat.lt_of_lt_of_le (val_lt hx) (pw_mono h1)
  have h4 := Nat.lt_of_lt_of_le (val_lt hy) (pw_mono h2)
  have h5 := pw_pos m
  rcases Nat.eq_zero_or_pos c with h | h
  · subst h; omega
  · have h6 : 1 * (pw m * 4294967296) ≤ c * (pw m * 4294967296) := Nat.mul_le_mul_right _ h
    omega

set_option maxHeartbeats 800000 in
set_option maxRecDepth 100000 in
theorem Add_any (ao bo : Option Addr) (ca cb : Nat) (xs ys : List Nat) (w : World) (ha : Rd w ao ca xs) (hb : Rd w bo cb ys) (hx : xs.length ≤ 1099511627776) (hy : ys.length ≤ 1099511627776) :
    Calls Tryz.prog 47 #[.slice ao xs.length ca, .slice bo ys.length cb] w fun e w' => ∃ ao' cap', e = .returned (.slice ao' (dig (val xs + val ys)).length cap') ∧ Fr w.heap.size w' ao' cap' (dig (val xs + val ys)) ∧ Below w.heap.size w w' := by
  have hma := ha.max
  have hla := ha.le
  have hmb := hb.max
  have hlb := hb.le
  obtain ⟨m, hm1, hm2, hm3⟩ : ∃ m, xs.length ≤ m ∧ ys.length ≤ m ∧ m = max xs.length ys.length := ⟨_, by omega, by omega, rfl⟩
  have hm5 : m ≤ xs.length ∨ m ≤ ys.length := by omega
  clear hm3
  obtain ⟨i0, hi, hz0, hz1, hz2⟩ := info_parts infoU32
  go_enter Tryz.func47, Tryz.ntmps47
  go_wp2_with (at_make; go_loud (refine wpList_make_full _ rfl _ _ 23 rfl w.heap.size 35 i0 (.int .u32 0) 1 Tryz.underlying23 hi hz0 hz1 _ _ _ _ (m + 1) rfl rfl (by omega) (by omega) (by rw [hz2]; omega) (by unfold maxLen; omega) (Nat.le_refl _) ?_); intro w1 hown hgr)
  all_goals
    have hown0 := Own.made hown
    clear hown hi hz0 hz1 hz2
    have hbel : Below w.heap.size w w1 := (Below.refl _ _).grown hgr (Nat.le_refl _) (fun k hk => by cases hk)
    go_loopw [6, 17] (fun s6 s17 wr => ∃ (i c : Nat) (cs : List Nat), i ≤ m + 1 ∧ s6 = .int .u64 c ∧ s17 = .int .i64 i ∧ c ≤ 1 ∧ Hid (cs.length = m + 1) ∧ Lims cs ∧ Own wr w.heap.size cs ∧ Below w.heap.size w wr ∧
        Hid (vl cs i + c * pw i = vl xs i + vl ys i)) (fun _ s17 _ => m + 1 - (intOf s17).toNat)
    case atStart => exact ⟨0, 0, _, by omega, rfl, rfl, by omega, List.length_replicate .., lims_replicate _, hown0, hbel, by simp [vl, Hid]⟩
    case round =>
      obtain ⟨i, c, cs, hi, rfl, rfl, hc, hlen, hlc, hown, hbl, hv⟩ := hrel
      have har := ha.below hbl
      have hbr := hb.below hbl
      by_cases hlt : i < m + 1
      · have hx := ha.lims i
        have hy := hb.lims i
        have hcell := hown.cell (j := i) (by rw [hlen.out]; exact hlt)
        have hfro := hown.frozen i
        go_wp2_with fail
        refine (limb_any _ _ i _ _ har _ (by omega)).mono ?_; rintro e w' ⟨rfl, rfl⟩
        go_wp2_with fail
        refine (limb_any _ _ i _ _ hbr _ (by omega)).mono ?_; rintro e w' ⟨rfl, rfl⟩
        go_wp2_with fail
        have e1 : ((c : Int) + ((lm xs i : Nat) + (lm ys i : Nat))) % 4294967296 = ((c + (lm xs i + lm ys i)) % 4294967296 : Nat) := by omega
        have hown2 := hown.setCell (j := i) (by rw [hlen.out]; exact hlt) ((c + (lm xs i + lm ys i)) % 4294967296)
        rw [← e1] at hown2
        go_roundw
        case rel => exact ⟨i + 1, (c + (lm xs i + lm ys i)) / 4294967296, _, by omega, by go_num, by go_num, by omega, (List.length_set ..).trans hlen.out, lims_set hlc i _ (by omega), hown2, hbl.setCell (Nat.le_refl _) _, by
          show _ = _
          rw [vl, vl, vl, vl_set_ge _ _ _ _ (Nat.le_refl _), lm_set _ _ _ _ (by rw [hlen.out]; exact hlt), if_pos rfl, pw_succ]
          exact sum_step _ _ _ _ _ _ _ _ _ hv.out (by omega)⟩
        case measure => simp [intOf]; omega
      · obtain rfl : i = m + 1 := by omega
        have ht := Lib.hid (add_end ha.lims hb.lims hlc hm1 hm2 hlen.out hv.out)
        have hfr := (Fr.of_own hown hlc (Nat.le_refl _) (m + 1) (by rw [hlen.out]; exact Nat.le_refl _) (by omega))
        have hln := Lib.hid hlen.out.symm
        clear har hbr hgr hown0 hbel hlen hv
        go_wp2_with fail
        refine (significant_len _ _ _ _ hfr.rd _ hln.out).mono ?_; rintro e w' ⟨rfl, rfl⟩
        go_wp2_with fail
        go_ret
        have hfr2 := hfr.trim
        rw [ht.out] at hfr2
        exact ⟨_, _, ret_len (congrArg List.length ht.out), hfr2, hbl⟩
end Go.Proofs.YtdcnkebcpaelpaaGreatDoor
/- Contracts of package natural: the quotient by one limb. -/
namespace Go.Proofs.YtdcnkebcpaelpaaGreatDoor
open Go.RowKit

theorem ret_u32 {a b : Int} (h : a = b) : Ending.returned (.int .u32 a) = .returned (.int .u32 b) := by rw [h]

set_option maxHeartbeats 800000 in
set_option maxRecDepth 100000 in
theorem divideInPlace_own (b cap d : Nat) (xs : List Nat) (w : World) (hown : Own w b xs) (hl : Lims xs) (hd : 0 < d) (hd2 : d < 4294967296) (hb : xs.length ≤ 1099511627776) :
    Calls Tryz.prog 61 #[.slice (some ⟨b, 0, none⟩) xs.length cap, .int .u32 (d : Int)] w fun e w' => ∃ ys : List Nat, e = .returned (.int .u32 ((val xs % d : Nat) : Int)) ∧ ys.length = xs.length ∧ Lims ys ∧ val ys = val xs / d ∧
      Own w' b ys ∧ w.grownBy w' (some b) ∧ w'.heap.size = w.heap.size := by
  obtain ⟨n, hn⟩ : ∃ n, n = xs.length := ⟨_, rfl⟩
  rw [← hn] at hb ⊢
  have hnh := Lib.hid hn; clear hn
  go_enter Tryz.func61, Tryz.ntmps61
  go_wp2
  go_loopw [5, 11] (fun s5 s11 wr => ∃ (i r : Nat) (cs : List Nat), i ≤ n ∧ s5 = .int .u64 r ∧ s11 = .int .i64 i ∧ r < d ∧ Hid (cs.length = n) ∧ Lims cs ∧ Own wr b cs ∧ w.grownBy wr (some b) ∧ Hid (wr.heap.size = w.heap.size) ∧
      Hid (∀ j, j < n - i → lm cs j = lm xs j) ∧ Hid (val (xs.drop (n - i)) = d * val (cs.drop (n - i)) + r)) (fun _ s11 _ => n - (intOf s11).toNat)
  case atStart => exact ⟨0, 0, xs, by omega, rfl, rfl, by omega, hnh.out.symm, hl, hown, World.grownBy.refl _ _, rfl, fun j _ => rfl, by
    show _ = _
    rw [val_drop_ge xs _ (by rw [← hnh.out]; omega)]; omega⟩
  case round =>
    obtain ⟨i, r, cs, hi, rfl, rfl, hr, hlen, hlc, hownr, hg, hsz, hlow, hv⟩ := hrel
    by_cases hlt : i < n
    · have hx := hlc (n - 1 - i)
      have hcell := hownr.cell (j := n - 1 - i) (by rw [hlen.out]; omega)
      have hfro := hownr.frozen (n - 1 - i)
      obtain ⟨s, hs⟩ : ∃ s : Nat, s = lm cs (n - 1 - i) + r * 4294967296 := ⟨_, rfl⟩
      have hor : bits BinOp.or IntKind.u64 ((r : Int) * 4294967296) ((lm cs (n - 1 - i) : Nat) : Int) = (s : Int) := by rw [hs]; exact or_join r _ (by omega) hx
      have hsb : (s : Int) ≤ 18446744073709551615 := by omega
      have hq := quo_lt s d r _ hr hx hs
      have hq1 : (s : Int) / (d : Int) ≤ 4294967295 := by
        have e : (s : Int) / (d : Int) = ((s / d : Nat) : Int) := (Int.natCast_ediv s d).symm
        rw [e]; omega
      have hq0 : 0 ≤ (s : Int) / (d : Int) := Int.ediv_nonneg (by omega) (by omega)
      have hsh := Lib.hid hs
      clear hs hq
      go_wp2
      have e1 : (s : Int) / (d : Int) = ((s / d : Nat) : Int) := (Int.natCast_ediv s d).symm
      have e2 : (s : Int) % (d : Int) = ((s % d : Nat) : Int) := (Int.natCast_emod s d).symm
      rw [e1] at hq1
      have hown2 := hownr.setCell (j := n - 1 - i) (by rw [hlen.out]; omega) (s / d)
      rw [← e1] at hown2
      have hk1 : n - 1 - i < cs.length := by rw [hlen.out]; omega
      have hk2 : n - (i + 1) = n - 1 - i := by omega
      have hk3 : n - i = n - 1 - i + 1 := by omega
      go_roundw
      case rel => exact ⟨i + 1, s % d, _, by omega, by rw [e2], by go_num, Nat.mod_lt _ hd, (List.length_set ..).trans hlen.out, lims_set hlc _ _ (by omega), hown2, grownBy_set hg _ _, (World.size_setCell _ _ _).trans hsz.out,
        fun j hj => by rw [lm_set _ _ _ _ hk1, if_neg (by omega)]; exact hlow.out j (by omega), by
        show _ = _
        rw [hk2, val_drop xs _ (by rw [← hnh.out]; omega), val_drop (cs.set (n - 1 - i) (s / d)) _ (by rw [List.length_set]; exact hk1), lm_set _ _ _ _ hk1, if_pos rfl, drop_set_lt _ _ _ _ (by omega)]
        have hv2 := hv.out
        rw [hk3] at hv2
        rw [← hlow.out (n - 1 - i) (by omega)]
        exact short_step _ _ _ _ _ _ _ _ hv2 hsh.out (Nat.div_add_mod s d).symm⟩
      case measure => simp [intOf]; omega
    · obtain rfl : i = n := by omega
      have hv2 := hv.out
      rw [Nat.sub_self, List.drop_zero, List.drop_zero] at hv2
      have hm : Hid (val xs % d = r) := by show _ = _; rw [hv2, Nat.mul_add_mod]; exact Nat.mod_eq_of_lt hr
      have hq : Hid (val cs = val xs / d) := by show _ = _; rw [hv2, Nat.mul_add_div hd, Nat.div_eq_of_lt hr]; omega
      clear hv2
      go_wp2
      go_ret
      exact ⟨cs, ret_u32 (by rw [hm.out]), hlen.out, hlc, hq.out, hownr, hg, hsz.out⟩

/-- divideInPlace, the slice nil or the call's own -/
theorem divideInPlace_any (B : Nat) (ao : Option Addr) (cap d : Nat) (xs : List Nat) (w : World) (h : Fr B w ao cap xs) (hd : 0 < d) (hd2 : d < 4294967296) (hb : xs.length ≤ 1099511627776) (hB : B ≤ w.heap.size) :
    Calls Tryz.prog 61 #[.slice ao xs.length cap, .int .u32 (d : Int)] w fun e w' => ∃ ys : List Nat, e = .returned (.int .u32 ((val xs % d : Nat) : Int)) ∧ ys.length = xs.length ∧ val ys = val xs / d ∧
      Fr B w' ao cap ys ∧ w.grownBy w' (ao.map (·.block)) ∧ Below B w w' ∧ w'.heap.size = w.heap.size := by
  obtain ⟨h1, h2, h3, h4⟩ := h
  rcases h4 with ⟨rfl, rfl, rfl⟩ | ⟨b, rfl, hBb, hown⟩
  · clear h1 h2 h3
    have e0 : Hid (val [] % d = 0) := Nat.zero_mod d
    have e1 : Hid (val [] = val [] / d) := (Nat.zero_div d).symm
    go_enter Tryz.func61, Tryz.ntmps61
    go_wp2
    refine wp_loop_rounds 1 ?_
    rw [rounds_succ]
    go_wp2
    go_ret
    exact ⟨[], ret_u32 (by rw [e0.out]; rfl), rfl, e1.out, Fr.nil _ _, World.grownBy.refl _ _, Below.refl _ _, rfl⟩
  · refine (divideInPlace_own b cap d xs w hown h3 hd hd2 hb).mono ?_
    rintro e w' ⟨ys, rfl, k1, k2, k3, k4, k5, k6⟩
    exact ⟨ys, rfl, k1, k3, Fr.of_own k4 k2 hBb cap (by rw [k1]; exact h1) h2, k5, (Below.refl _ _).grown k5 hB (fun k hk => by cases hk; exact hBb), k6⟩
end Go.Proofs.YtdcnkebcpaelpaaGreatDoor
