import Derived.Test.YtdcnkebcpaelpaaGreatDoorClsM
import Derived.Test.YtdcnkebcpaelpaaGreatDoorShelf
import Derived.WalkSpells
import Derived.Below
import Derived.Sort.Grow
import Derived.WalkLawsBesides
import Derived.Laws.BitsAllLaws
import Derived.Laws.AppendOwn
import Derived.Deep.AppendLies
import Derived.Deep.QuietTactic
import Derived.BigQuiet
import Derived.Deep.RegionHeld3
/- Layer 6: what the walks share: slices that read values, rows that a function owns, worlds that grow. -/
namespace Go.Proofs.YtdcnkebcpaelpaaGreatDoor.C6
open Go.RowKit Go.Sort

theorem ret_i64 {a b : Int} (h : a = b) : Ending.returned (.int .i64 a) = .returned (.int .i64 b) := by rw [h]
theorem ret_bool {a b : Bool} (h : a = b) : Ending.returned (.bool a) = .returned (.bool b) := by rw [h]
theorem ret_str {a b : ByteArray} (h : a = b) : Ending.returned (.string a) = .returned (.string b) := by rw [h]
theorem below_new (w : World) (o : Obj) : Below w.heap.size w (w.alloc o) := (Below.refl _ _).alloc (Nat.le_refl _) o
theorem keep {A w w2 : World} (h : Below A.heap.size A w) (b : Below w.heap.size w w2) : Below A.heap.size A w2 := h.trans (b.mono h.size)
theorem keepB {A w w2 : World} {B : Nat} (h : Below B A w) (hB : B ≤ A.heap.size) (b : Below w.heap.size w w2) : Below B A w2 := h.trans (b.mono (Nat.le_trans hB h.size))
theorem cellB {A w : World} {p : Addr} {v : Value} (h : A.cell? p = some v) (b : Below A.heap.size A w) : w.cell? p = some v := (b.cell (World.block_lt_of_cell? _ _ h)).trans h
theorem bs_app (a b : List UInt8) : (⟨a.toArray⟩ : ByteArray) ++ (⟨b.toArray⟩ : ByteArray) = ⟨(a ++ b).toArray⟩ := by
  apply ByteArray.ext
  simp
theorem ne_text {a b : ByteArray} (h : a ≠ b) : (a.toList == b.toList) = false := beq_eq_false_iff_ne.2 (fun e => h (ba_ext (by rw [← ByteArray.toList_eq, ← ByteArray.toList_eq]; exact e)))
theorem eq_text {a b : ByteArray} (h : a = b) : (a.toList == b.toList) = true := by rw [h]; simp

/-- a slice reads values, one cell each -/
def RdV (w : World) (ao : Option Addr) (cap : Nat) (vs : List Value) : Prop :=
  vs.length ≤ cap ∧ cap ≤ 9223372036854775807 ∧
    ((vs = [] ∧ (ao = none → cap = 0)) ∨ ∃ b o, ao = some ⟨b, o, none⟩ ∧ ∀ i v, vs[i]? = some v → w.cell? ⟨b, o + i, none⟩ = some v)
theorem RdV.nil (w : World) : RdV w none 0 [] := ⟨by simp, by omega, .inl ⟨rfl, fun _ => rfl⟩⟩
theorem RdV.at {w : World} {ao : Option Addr} {cap : Nat} {vs : List Value} (h : RdV w ao cap vs) {i : Nat} (hi : i < vs.length) : ∃ b o, ao = some ⟨b, o, none⟩ ∧ w.cell? ⟨b, o + i, none⟩ = some vs[i] := by
  rcases h.2.2 with ⟨e, _⟩ | ⟨b, o, e, hc⟩
  · rw [e] at hi; simp at hi
  · exact ⟨b, o, e, hc i _ (List.getElem?_eq_getElem hi)⟩
theorem RdV.keep {w w' : World} {B : Nat} {ao : Option Addr} {cap : Nat} {vs : List Value} (h : RdV w ao cap vs) (hb : 0 < vs.length → ∀ b o, ao = some ⟨b, o, none⟩ → b < B) (g : Below B w w') : RdV w' ao cap vs := by
  refine ⟨h.1, h.2.1, ?_⟩
  rcases h.2.2 with hn | ⟨b, o, e, hc⟩
  · exact .inl hn
  · refine .inr ⟨b, o, e, fun i v hi => ?_⟩
    have hl : 0 < vs.length := by have := (List.getElem?_eq_some_iff.1 hi).1; omega
    exact (g.cell (p := ⟨b, o + i, none⟩) (hb hl b o e)).trans (hc i v hi)
theorem RdV.lt {w : World} {ao : Option Addr} {cap : Nat} {vs : List Value} (h : RdV w ao cap vs) : 0 < vs.length → ∀ b o, ao = some ⟨b, o, none⟩ → b < w.heap.size := by
  intro h0 b o e
  obtain ⟨b', o', e', hc⟩ := h.at h0
  rw [e] at e'
  cases e'
  exact World.block_lt_of_cell? _ _ hc
theorem RdV.below {w w' : World} {ao : Option Addr} {cap : Nat} {vs : List Value} (h : RdV w ao cap vs) (g : Below w.heap.size w w') : RdV w' ao cap vs := h.keep h.lt g
theorem RdV.drew {w : World} {ao : Option Addr} {cap : Nat} {vs : List Value} (h : RdV w ao cap vs) (n : Nat) : RdV (w.drewN n) ao cap vs := h
theorem RdV.take {w : World} {ao : Option Addr} {cap : Nat} {vs : List Value} (h : RdV w ao cap vs) (k : Nat) : RdV w ao cap (vs.take k) := by
  refine ⟨Nat.le_trans (by rw [List.length_take]; omega) h.1, h.2.1, ?_⟩
  rcases h.2.2 with ⟨rfl, hn⟩ | ⟨b, o, rfl, hc⟩
  · exact .inl ⟨by simp, hn⟩
  · refine .inr ⟨b, o, rfl, fun i v hi => hc i v ?_⟩
    rw [List.getElem?_take] at hi
    split at hi
    · exact hi
    · cases hi

/-- integers, strings as values -/
def ints (p : List Nat) : List Value := p.map (fun n : Nat => Value.int .i64 (n : Int))
def intz (p : List Int) : List Value := p.map (Value.int .i64)
def strs (l : List ByteArray) : List Value := l.map Value.string
theorem ints_length (p : List Nat) : (ints p).length = p.length := by simp [ints]
theorem intz_length (p : List Int) : (intz p).length = p.length := by simp [intz]
theorem strs_length (p : List ByteArray) : (strs p).length = p.length := by simp [strs]
theorem ints_z (p : List Nat) : ints p = intz (p.map (fun n : Nat => (n : Int))) := by simp [ints, intz]
abbrev RdN (w : World) (ao : Option Addr) (cap : Nat) (p : List Nat) : Prop := RdV w ao cap (ints p)
abbrev RdZ (w : World) (ao : Option Addr) (cap : Nat) (p : List Int) : Prop := RdV w ao cap (intz p)
abbrev RdS (w : World) (ao : Option Addr) (cap : Nat) (l : List ByteArray) : Prop := RdV w ao cap (strs l)
theorem RdV.atZ {w : World} {ao : Option Addr} {cap : Nat} {p : List Int} (h : RdZ w ao cap p) {i : Nat} (hi : i < p.length) : ∃ b o, ao = some ⟨b, o, none⟩ ∧ w.cell? ⟨b, o + i, none⟩ = some (.int .i64 (p.getD i 0)) := by
  obtain ⟨b, o, e, hc⟩ := h.at (i := i) (by rw [intz_length]; exact hi)
  refine ⟨b, o, e, hc.trans ?_⟩
  simp [intz, List.getD, hi]
theorem RdV.atN {w : World} {ao : Option Addr} {cap : Nat} {p : List Nat} (h : RdN w ao cap p) {i : Nat} (hi : i < p.length) : ∃ b o, ao = some ⟨b, o, none⟩ ∧ w.cell? ⟨b, o + i, none⟩ = some (.int .i64 ((p.getD i 0 : Nat) : Int)) := by
  obtain ⟨b, o, e, hc⟩ := h.at (i := i) (by rw [ints_length]; exact hi)
  refine ⟨b, o, e, hc.trans ?_⟩
  simp [ints, List.getD, hi]
theorem RdV.atS {w : World} {ao : Option Addr} {cap : Nat} {p : List ByteArray} (h : RdS w ao cap p) {i : Nat} (hi : i < p.length) : ∃ b o, ao = some ⟨b, o, none⟩ ∧ w.cell? ⟨b, o + i, none⟩ = some (.string (p.getD i ByteArray.empty)) := by
  obtain ⟨b, o, e, hc⟩ := h.at (i := i) (by rw [strs_length]; exact hi)
  refine ⟨b, o, e, hc.trans ?_⟩
  simp [strs, List.getD, hi]
theorem RdV.takeN {w : World} {ao : Option Addr} {cap : Nat} {p : List Nat} (h : RdN w ao cap p) (k : Nat) : RdN w ao cap (p.take k) := by
  have := RdV.take h k
  unfold ints at this
  rwa [← List.map_take] at this
theorem RdV.takeZ {w : World} {ao : Option Addr} {cap : Nat} {p : List Int} (h : RdZ w ao cap p) (k : Nat) : RdZ w ao cap (p.take k) := by
  have := RdV.take h k
  unfold intz at this
  rwa [← List.map_take] at this
theorem RdV.takeS {w : World} {ao : Option Addr} {cap : Nat} {p : List ByteArray} (h : RdS w ao cap p) (k : Nat) : RdS w ao cap (p.take k) := by
  have := RdV.take h k
  unfold strs at this
  rwa [← List.map_take] at this
theorem RdV.of_row {w : World} {base n : Nat} {v : Value} {t : TypeId} {vs : List Value} (h : w.ownsRow base t 1 v n vs) :
    ∃ ao cap, v = .slice ao vs.length cap ∧ RdV w ao cap vs ∧ (0 < vs.length → ∀ b o, ao = some ⟨b, o, none⟩ → base ≤ b) := by
  have hlen : vs.length = n := by simpa using h.1
  subst hlen
  rcases h.2 with ⟨rfl, h0⟩ | ⟨g, cap, cur, rfl, _, _, hn, hc, _, _⟩
  · have : vs = [] := List.eq_nil_of_length_eq_zero h0
    subst this
    exact ⟨none, 0, rfl, RdV.nil _, fun h => by simp at h⟩
  · refine ⟨_, cap, rfl, ⟨hn, by unfold maxLen at hc; omega, .inr ⟨g, 0, rfl, fun i v hi => ?_⟩⟩, fun _ b o e => by cases e; exact (h.lt g rfl).1⟩
    rw [Nat.zero_add]
    have hi' := (List.getElem?_eq_some_iff.1 hi).1
    rw [h.cellAt i (by omega)]
    exact hi

theorem infoInt : (Tryz.prog.info? 3).map (fun i => (i.zero, i.size, i.bytes)) = some (some (.int .i64 0), 1, 8) := by kernel_rfl
theorem infoStr : (Tryz.prog.info? 9).map (fun i => (i.zero, i.size, i.bytes)) = some (some (.string ByteArray.empty), 1, 16) := by kernel_rfl
theorem info_parts {t : TypeId} {z : Value} {s b : Nat} (h : (Tryz.prog.info? t).map (fun i => (i.zero, i.size, i.bytes)) = some (some z, s, b)) : ∃ i, Tryz.prog.info? t = some i ∧ i.zero = some z ∧ i.size = s ∧ i.bytes = b := by
  obtain ⟨i, hi, he⟩ := Option.map_eq_some_iff.1 h
  simp at he
  exact ⟨i, hi, he.1, he.2.1, he.2.2⟩
theorem one_cell (w : World) (u : Value) (t : TypeId) : ∀ j x, [u][j]? = some x → (w.alloc (.cells #[u] t)).cell? ((⟨w.heap.size, 0, none⟩ : Addr).add j) = some x := by
  intro j x hj
  rw [Addr.add_lit]
  match j with
  | 0 => cases hj; exact World.cell?_alloc_mark w _ _ (0, 0) 0
  | j + 1 => cases hj
theorem row_block {w : World} {base n size : Nat} {e : TypeId} {v : Value} {xs : List Value} {B : Nat} (h : w.ownsRow base e size v n xs) (hB : B < base) : v.ownBlock = none ∨ v.ownBlock ≠ some B := by
  cases hv : v.ownBlock with
  | none => exact .inl rfl
  | some g =>
    have := h.lt g hv
    exact .inr (fun e => by cases e; omega)
theorem gb_trans {a b c : World} {row : Option Nat} (h : a.grownBy b row) (k : b.grownBy c row) : a.grownBy c row :=
  ⟨k.os.trans h.os, k.tape.trans h.tape, k.output.trans h.output, Nat.le_trans h.size k.size, fun i hi hne => (k.block i (Nat.lt_of_lt_of_le hi h.size) hne).trans (h.block i hi hne)⟩
theorem gb_set (w : World) (b j : Nat) (u : Value) : w.grownBy (w.setCell ⟨b, j, none⟩ u) (some b) :=
  ⟨rfl, rfl, rfl, by simp, fun i _ hne => Below.heap_setCell _ _ _ _ (fun e => hne (by rw [e]))⟩
theorem gb_drewN (w : World) (n : Nat) (row : Option Nat) : w.grownBy (w.drewN n) row := ⟨rfl, rfl, rfl, Nat.le_refl _, fun _ _ _ => rfl⟩
theorem gb_below {w w' : World} {B : Nat} (h : w.grownBy w' (some B)) (hB : B ≤ w.heap.size) : Below B w w' := ⟨h.os, h.tape, h.output, h.size, fun k hk => h.block k (by omega) (fun e => by cases e; omega)⟩
theorem below_gb {w w' : World} (h : Below w.heap.size w w') (row : Option Nat) : w.grownBy w' row := ⟨h.os, h.tape, h.output, h.size, fun i hi _ => h.block i hi⟩
theorem own_below {w w' : World} {base n size : Nat} {e : TypeId} {v : Value} {xs : List Value} (h : w.ownsRow base e size v n xs) (b : Below w.heap.size w w') : w'.ownsRow base e size v n xs := h.kept (below_gb b none) (by cases hv : v.ownBlock <;> simp)
/-- behind an append to a row of one's own -/
theorem app_below {B : Nat} {w w2 w3 : World} {o : Obj} {row : Option Nat} (h : Below B w w2) (hs : B ≤ w2.heap.size) (hg : (w2.alloc o).grownBy w3 row) (hr : ∀ k, row = some k → B ≤ k) : Below B w w3 :=
  h.trans (Below.trans (b := w2.alloc o) ((Below.refl _ _).alloc hs _) ((Below.refl _ _).grown hg (by simp; omega) hr))
theorem RdV.gb' {w w' : World} {B : Nat} {ao : Option Addr} {cap : Nat} {vs : List Value} {n : Nat} (h : RdV w ao cap vs) (hn : 0 < n → ∀ b o, ao = some ⟨b, o, none⟩ → b < B) (hB : B < w.heap.size) (g : w.grownBy w' (some B)) (e : vs.length = n := by simp [ints, intz, strs]) : RdV w' ao cap vs := h.keep (fun h0 => hn (by omega)) (gb_below g (Nat.le_of_lt hB))
/-- the same where blocks may turn -/
theorem gb_app {B : Nat} {w2 w4 w5 : World} {o : Obj} {row : Option Nat} (h : w2.grownBy w4 (some B)) (hg : (w4.alloc o).grownBy w5 row) (hne : ∀ b, b < w2.heap.size → some b ≠ row) : w2.grownBy w5 (some B) :=
  ⟨hg.os.trans h.os, hg.tape.trans h.tape, hg.output.trans h.output, Nat.le_trans h.size (Nat.le_trans (by simp) hg.size), fun b hb hn => by
    have hs := h.size
    have h1 := hg.block b (by simp; omega) (hne b hb)
    have h2 := (World.grownBy_alloc w4 o none).block b (by omega) (by simp)
    exact h1.trans (h2.trans (h.block b hb hn))⟩
end Go.Proofs.YtdcnkebcpaelpaaGreatDoor.C6
