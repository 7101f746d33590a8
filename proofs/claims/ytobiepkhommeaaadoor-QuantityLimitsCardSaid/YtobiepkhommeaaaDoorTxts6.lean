import Derived.Test.YtobiepkhommeaaaDoorTxts
import Derived.Laws.IdiomStrings
import Derived.Test.YtobiepkhommeaaaDoorRShort
import Derived.Deep.LoopGhost
import Derived.Lib.ConvBytes
/- Bytes in memory: what the walks over made texts share. -/
namespace Go.Proofs.YtobiepkhommeaaaDoor
open Go.RowKit

theorem cell_of_cells {w : World} {b j : Nat} {cs : Array Value} {t : TypeId} {fr : Nat × Nat} {v : Value} (h : w.heap[b]? = some (.cells cs t fr)) (hj : cs[j]? = some v) : w.cell? ⟨b, j, none⟩ = some v := by
  simp [World.cell?, h, hj]
theorem infoB8 : (Tryd.prog.info? 5).map (fun i => (i.zero, i.size, i.bytes)) = some (some (.int .u8 0), 1, 1) := by kernel_rfl
/-- the text that the law makes -/
def btx (k : Nat) : List UInt8 := (List.range k).map fun i => UInt8.ofNat (49 + i % 9)
theorem btx_length (k : Nat) : (btx k).length = k := by simp [btx]
theorem btx_get (k j : Nat) (hj : j < (btx k).length) : (btx k)[j].toNat = 49 + j % 9 := by
  simp only [btx, List.getElem_map, List.getElem_range, UInt8.toNat_ofNat']
  omega
theorem btx_good (k : Nat) (hk : 0 < k) : Good (btx k) := by
  refine ⟨fun c hc => ?_, ?_, ?_⟩
  · obtain ⟨j, hj, rfl⟩ := List.getElem_of_mem hc
    unfold isd; rw [btx_get k j hj]; omega
  · intro e; have := btx_length k; rw [e] at this; simp at this; omega
  · right
    rw [List.head?_eq_getElem?, List.getElem?_eq_getElem (by rw [btx_length]; exact hk)]
    intro e
    have := congrArg UInt8.toNat (Option.some.inj e)
    rw [btx_get k 0] at this
    have h2 : (48 : UInt8).toNat = 48 := rfl
    omega

/-- a block of n bytes of the call's own, the first i of them laid -/
def Byt (w : World) (g n i : Nat) : Prop := ∃ cur : Array Value, w.heap[g]? = some (.cells cur 5 (0, 0)) ∧ cur.size = n ∧ (∀ j, j < i → cur[j]? = some (.int .u8 ((49 + j % 9 : Nat) : Int))) ∧ ∀ j, i ≤ j → j < n → cur[j]? = some (.int .u8 0)
theorem Byt.cell {w : World} {g n i : Nat} (h : Byt w g n i) (hi : i < n) : w.cell? ⟨g, i, none⟩ = some (.int .u8 0) := by
  obtain ⟨cur, h1, h2, h3, h4⟩ := h
  exact cell_of_cells h1 (h4 i (Nat.le_refl _) hi)
theorem Byt.frozen {w : World} {g n i : Nat} (h : Byt w g n i) (j : Nat) : w.frozen? ⟨g, j, none⟩ = false := by
  obtain ⟨cur, h1, h2, h3, h4⟩ := h
  simp [World.frozen?, h1]
theorem Byt.set {w : World} {g n i : Nat} (h : Byt w g n i) (hi : i < n) : Byt (w.setCell ⟨g, i, none⟩ (.int .u8 ((49 + i % 9 : Nat) : Int))) g n (i + 1) := by
  obtain ⟨cur, h1, h2, h3, h4⟩ := h
  refine ⟨cur.setIfInBounds i (.int .u8 ((49 + i % 9 : Nat) : Int)), ?_, by simpa using h2, fun j hj => ?_, fun j hj hn => ?_⟩
  · simp [World.setCell, Array.getElem?_modify, h1]
  · rw [Array.getElem?_setIfInBounds]
    by_cases e : i = j
    · subst e; rw [if_pos rfl, if_pos (by omega)]
    · rw [if_neg e]; exact h3 j (by omega)
  · rw [Array.getElem?_setIfInBounds, if_neg (by omega)]; exact h4 j (by omega) hn
theorem Byt.below {B : Nat} {w w' : World} {g n i : Nat} (h : Byt w g n i) (hb : Below B w w') (hg : g < B) : Byt w' g n i := by
  obtain ⟨cur, h1, h2⟩ := h
  exact ⟨cur, (hb.block g hg).trans h1, h2⟩
theorem Byt.lt {w : World} {g n i : Nat} (h : Byt w g n i) : g < w.heap.size := by
  obtain ⟨cur, h1, _⟩ := h
  exact (Array.getElem?_eq_some_iff.1 h1).1
theorem Byt.text {w : World} {g n : Nat} (h : Byt w g n n) : (convert 99 9 (.slice (some ⟨g, 0, none⟩) n n)).run Tryd.prog w = .ok (.string ⟨(btx n).toArray⟩) w := by
  have := run_convert_bytes_back (P := Tryd.prog) w 99 9 5 ⟨g, 0, none⟩ n (btx n) Tryd.underlying99 Tryd.underlying5 Tryd.underlying9 (fun j hj => by
    obtain ⟨cur, h1, h2, h3, h4⟩ := h
    rw [Addr.add_lit, Nat.zero_add, btx_get n j hj]
    exact cell_of_cells h1 (h3 j (by rw [btx_length] at hj; exact hj)))
  rwa [btx_length] at this
theorem Byt.made {w w' : World} {n : Nat} (h : w'.ownsRow w.heap.size 5 1 (.slice (some ⟨w.heap.size, 0, none⟩) n n) n (madeCells (Value.int .u8 0).cells (n * 1)).toList) : Byt w' w.heap.size n 0 := by
  have e : (madeCells (Value.int .u8 0).cells (n * 1)).toList = List.replicate n (Value.int .u8 0) := by
    rw [show (Value.int .u8 0).cells = #[Value.int .u8 0] from rfl, toList_madeCells_one, Nat.mul_one]
  rw [e] at h
  obtain ⟨h1, h2⟩ := h
  rcases h2 with ⟨h2, _⟩ | ⟨g', cap', cur, hv, hb, hg, hn, hc, hs, ht⟩
  · cases h2
  · cases hv
    have hs' : cur.size = n := by simpa using hs
    have e2 : cur.toList = List.replicate n (Value.int .u8 0) := by
      rw [← ht, List.take_of_length_le]; simp [hs']
    refine ⟨cur, hg, hs', fun j hj => by omega, fun j _ hj => ?_⟩
    rw [← Array.getElem?_toList, e2, List.getElem?_replicate, if_pos hj]

end Go.Proofs.YtobiepkhommeaaaDoor
/- Contracts of the reference's short and Format. -/
namespace Go.Proofs.YtobiepkhommeaaaDoor
open Go.RowKit

/-- the digits of a number, the lowest one first; none for 0 -/
def rl (n : Nat) : List UInt8 := if n = 0 then [] else (Lib.decDigits n).reverse
theorem rl_pos (n : Nat) (h : 0 < n) : rl n = UInt8.ofNat (48 + n % 10) :: rl (n / 10) := by
  unfold rl
  rw [if_neg (by omega)]
  by_cases h1 : n < 10
  · rw [dec_small h1, if_pos (by omega), show n % 10 = n by omega]; rfl
  · rw [dec_big (by omega), if_neg (by omega), List.reverse_append]; rfl
theorem rl_zero : rl 0 = [] := rfl
theorem rl_length (k n : Nat) (h : n < 10 ^ (k + 1)) : (rl n).length ≤ k + 1 := by
  unfold rl
  split
  · simp
  · rw [List.length_reverse]; exact dec_len_le k n h
/-- bytes as values -/
def byv (l : List UInt8) : List Value := l.map fun b => Value.int .u8 (b.toNat : Int)
theorem byv_get (l : List UInt8) (j : Nat) (hj : j < l.length) : (byv l)[j]? = some (.int .u8 (l[j].toNat : Int)) := by simp [byv, hj]
theorem byv_getD (l : List UInt8) (j : Nat) (hj : j < l.length) : (byv l)[j]? = some (.int .u8 ((l.getD j 0).toNat : Int)) := by simp [byv, hj, List.getD]
theorem byv_length (l : List UInt8) : (byv l).length = l.length := by simp [byv]

/-- a block of bytes of the call's own, its last i laid -/
def Byr (w : World) (g i : Nat) (l : List UInt8) : Prop := ∃ cur : Array Value, w.heap[g]? = some (.cells cur 5 (0, 0)) ∧ cur.size = l.length ∧ (∀ p (hp : p < l.length), l.length - i ≤ p → cur[p]? = some (.int .u8 (l[p].toNat : Int))) ∧ ∀ p, p < l.length - i → cur[p]? = some (.int .u8 0)
theorem Byr.cell {w : World} {g i : Nat} {l : List UInt8} (h : Byr w g i l) (hi : i < l.length) : w.cell? ⟨g, l.length - 1 - i, none⟩ = some (.int .u8 0) := by
  obtain ⟨cur, h1, h2, h3, h4⟩ := h
  exact cell_of_cells h1 (h4 _ (by omega))
theorem Byr.frozen {w : World} {g i : Nat} {l : List UInt8} (h : Byr w g i l) (j : Nat) : w.frozen? ⟨g, j, none⟩ = false := by
  obtain ⟨cur, h1, h2, h3, h4⟩ := h
  simp [World.frozen?, h1]
theorem Byr.set {w : World} {g i : Nat} {l : List UInt8} (h : Byr w g i l) (hi : i < l.length) : Byr (w.setCell ⟨g, l.length - 1 - i, none⟩ (.int .u8 (l[l.length - 1 - i].toNat : Int))) g (i + 1) l := by
  obtain ⟨cur, h1, h2, h3, h4⟩ := h
  refine ⟨cur.setIfInBounds (l.length - 1 - i) (.int .u8 (l[l.length - 1 - i].toNat : Int)), ?_, by simpa using h2, fun p hp hj => ?_, fun p hp => ?_⟩
  · simp [World.setCell, Array.getElem?_modify, h1]
  · rw [Array.getElem?_setIfInBounds]
    by_cases e : l.length - 1 - i = p
    · subst e; rw [if_pos rfl, if_pos (by omega)]
    · rw [if_neg e]; exact h3 p hp (by omega)
  · rw [Array.getElem?_setIfInBounds, if_neg (by omega)]; exact h4 p (by omega)
theorem Byr.text {w : World} {g : Nat} {l : List UInt8} (h : Byr w g l.length l) : (convert 99 9 (.slice (some ⟨g, 0, none⟩) l.length l.length)).run Tryd.prog w = .ok (.string ⟨l.toArray⟩) w :=
  run_convert_bytes_back (P := Tryd.prog) w 99 9 5 ⟨g, 0, none⟩ l.length l Tryd.underlying99 Tryd.underlying5 Tryd.underlying9 (fun j hj => by
    obtain ⟨cur, h1, h2, h3, h4⟩ := h
    rw [Addr.add_lit, Nat.zero_add]
    exact cell_of_cells h1 (h3 j hj (by omega)))
theorem Byr.made {w w' : World} {l : List UInt8} (h : w'.ownsRow w.heap.size 5 1 (.slice (some ⟨w.heap.size, 0, none⟩) l.length l.length) l.length (madeCells (Value.int .u8 0).cells (l.length * 1)).toList) : Byr w' w.heap.size 0 l := by
  obtain ⟨cur, h1, h2, h3, h4⟩ := Byt.made h
  exact ⟨cur, h1, h2, fun p hp hj => by omega, fun p hp => h4 p (by omega) (by omega)⟩

end Go.Proofs.YtobiepkhommeaaaDoor
/- Bytes in memory: a text as a slice of bytes, one byte changed, and back. -/
namespace Go.Proofs.YtobiepkhommeaaaDoor
open Go.RowKit Go.Sort

/-- block g reads the bytes l -/
def Bts (w : World) (g : Nat) (l : List UInt8) : Prop := ∀ j, j < l.length → w.cell? ⟨g, j, none⟩ = some (.int .u8 ((l.getD j 0).toNat : Int))
theorem Bts.text {w : World} {g n cap : Nat} {l : List UInt8} (h : Bts w g l) (hn : n ≤ l.length) : (convert 99 9 (.slice (some ⟨g, 0, none⟩) n cap)).run Tryd.prog w = .ok (.string ⟨(l.take n).toArray⟩) w := by
  have := run_convert_bytes_back (P := Tryd.prog) w 99 9 5 ⟨g, 0, none⟩ cap (l.take n) Tryd.underlying99 Tryd.underlying5 Tryd.underlying9 (fun j hj => by
    have hj' : j < n := by rw [List.length_take] at hj; omega
    rw [Addr.add_lit, Nat.zero_add, h j (by omega)]
    simp [List.getD, show j < l.length by omega])
  rwa [List.length_take, Nat.min_eq_left hn] at this
theorem Bts.keep {w w' : World} {g : Nat} {l : List UInt8} (h : Bts w g l) (b : Below w.heap.size w w') : Bts w' g l := fun j hj => (b.cell (World.block_lt_of_cell? _ _ (h j hj))).trans (h j hj)
theorem Bts.set {w : World} {g : Nat} {l : List UInt8} (h : Bts w g l) {a : Nat} (ha : a < l.length) (x : UInt8) : Bts (w.setCell ⟨g, a, none⟩ (.int .u8 (x.toNat : Int))) g (l.set a x) := by
  intro j hj
  rw [List.length_set] at hj
  by_cases e : a = j
  · subst e
    have hc := h a ha
    have : (w.setCell ⟨g, a, none⟩ (.int .u8 (x.toNat : Int))).cell? ⟨g, a, none⟩ = some (.int .u8 (x.toNat : Int)) := by
      unfold World.cell? at hc ⊢
      simp only [World.setCell, Array.getElem?_modify] at hc ⊢
      cases hh : w.heap[g]? with
      | none => simp [hh] at hc
      | some o =>
        simp only [hh] at hc ⊢
        cases o <;> simp at hc ⊢
        all_goals
          obtain ⟨hlt, _⟩ := Array.getElem?_eq_some_iff.1 hc
          simp [hlt]
    rw [this]
    simp [List.getD, ha]
  · have hc := h j hj
    have : (w.setCell ⟨g, a, none⟩ (.int .u8 (x.toNat : Int))).cell? ⟨g, j, none⟩ = w.cell? ⟨g, j, none⟩ := by
      unfold World.cell?
      simp only [World.setCell, Array.getElem?_modify]
      cases hh : w.heap[g]? with
      | none => simp
      | some o => cases o <;> simp [e]
    rw [this, hc]
    simp [List.getD, e]
/-- the bytes of a text, in memory -/
theorem Bts.made (w : World) (T : TypeId) (s : ByteArray) : Bts (Lib.bytesWorld w T s) w.heap.size s.data.toList := fun j hj => Lib.bytesWorld_cell w T s j (by simpa using hj)

theorem Bts.unfrozen (w : World) (T : TypeId) (s : ByteArray) {a : Nat} (ha : a < s.size) : (Lib.bytesWorld w T s).frozen? ⟨w.heap.size, a, none⟩ = false := by
  unfold World.frozen?
  rw [Lib.bytesWorld_at_new]
  have : s.size ≤ (Lib.bytesCells w T s).size := by simp [Lib.bytesCells]
  simp; omega
theorem dec_len {k n : Nat} (h : n < 10 ^ (k + 1)) : (Lib.decDigits n).length ≤ k + 1 := by
  rcases Nat.eq_zero_or_pos n with rfl | hp
  · rw [dec_small (by omega)]; simp
  · have h1 := rl_length k n h
    unfold rl at h1
    rw [if_neg (by omega), List.length_reverse] at h1
    exact h1
end Go.Proofs.YtobiepkhommeaaaDoor
