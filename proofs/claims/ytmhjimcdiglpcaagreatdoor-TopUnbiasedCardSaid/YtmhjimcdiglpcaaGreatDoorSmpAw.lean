import Derived.Test.YtmhjimcdiglpcaaGreatDoorLists
import Derived.Test.YtmhjimcdiglpcaaGreatDoorRatsD
import Derived.Test.YtmhjimcdiglpcaaGreatDoorRatsE
import Derived.Laws.AppendOwn
import Derived.Laws.OwnMore
import Derived.Deep.QuietTactic
import Derived.Sort.OwnSorted
import Derived.Test.YtmhjimcdiglpcaaGreatDoorPairs
import Derived.Test.YtmhjimcdiglpcaaGreatDoorNum5
import Derived.Test.YtmhjimcdiglpcaaGreatDoorGcds2
import Derived.Test.YtmhjimcdiglpcaaGreatDoorInts10
/- Layer 10: three sizes of 1: areShares, commonMultiple, proportions. -/
namespace Go.Proofs.YtmhjimcdiglpcaaGreatDoor
open Go.RowKit

theorem sgn_one : sgn 1 = 1 := by decide
theorem dd_one10 : (dd (1 : Rat).den).length = 0 := by decide
/-- three numbers of value 1 -/
def Ones (w : World) (ao : Option Addr) (cap : Nat) (rs : List RV) : Prop := RdR w ao cap rs ∧ rs.length = 3 ∧ ∀ u ∈ rs, Is w u 1
theorem Ones.below {w w' : World} {ao : Option Addr} {cap : Nat} {rs : List RV} (h : Ones w ao cap rs) (b : Below w.heap.size w w') : Ones w' ao cap rs := ⟨h.1.below b, h.2.1, fun u hu => (h.2.2 u hu).below b⟩
theorem Ones.at {w : World} {ao : Option Addr} {cap : Nat} {rs : List RV} (h : Ones w ao cap rs) : ∃ b o, ao = some ⟨b, o, none⟩ ∧ ∀ i, i < 3 → ∃ r : RV, At3 w b (o + i * 3) r ∧ Is w r 1 := by
  obtain ⟨b, o, e, hc⟩ := h.1.at (by rw [h.2.1]; omega)
  refine ⟨b, o, e, fun i hi => ⟨rs.getD i RV.nil, hc i (by rw [h.2.1]; exact hi), h.2.2 _ ?_⟩⟩
  have hl : i < rs.length := by rw [h.2.1]; exact hi
  simp [List.getD, hl]

end Go.Proofs.YtmhjimcdiglpcaaGreatDoor
/- Layer 10: three sizes of 1: proportions. -/
namespace Go.Proofs.YtmhjimcdiglpcaaGreatDoor
open Go.RowKit

theorem infoNat : (Tryz.prog.info? 30).map (fun i => (i.zero, i.size, i.bytes)) = some (some (.slice none 0 0), 1, 24) := by kernel_rfl
theorem infoInt10 : (Tryz.prog.info? 3).map (fun i => (i.zero, i.size, i.bytes)) = some (some (.int .i64 0), 1, 8) := by kernel_rfl
theorem row_n {w : World} {base n size : Nat} {e : TypeId} {v : Value} {xs : List Value} (h : w.ownsRow base e size v n xs) : ∃ ao cap, v = .slice ao n cap := by
  rcases h.2 with ⟨rfl, h0⟩ | ⟨g, cap, cur, rfl, _⟩
  · exact ⟨none, 0, by rw [h0]⟩
  · exact ⟨_, _, rfl⟩
theorem row_below {w w' : World} {base n size : Nat} {e : TypeId} {v : Value} {xs : List Value} (h : w.ownsRow base e size v n xs) (b : Below w.heap.size w w') : w'.ownsRow base e size v n xs := h.kept (below_grown b) (by cases hv : v.ownBlock <;> simp)
theorem row_lift {w : World} {base base' n size : Nat} {e : TypeId} {v : Value} {xs : List Value} (h : w.ownsRow base e size v n xs) (hb : base' ≤ base) : w.ownsRow base' e size v n xs :=
  ⟨h.1, h.2.imp id fun ⟨g, cap, cur, hv, h1, h2⟩ => ⟨g, cap, cur, hv, Nat.le_trans hb h1, h2⟩⟩
theorem row_gb {B : Nat} {w w' : World} {row : Option Nat} (h : w.grownBy w' row) (hB : B ≤ w.heap.size) (hr : ∀ k, row = some k → B ≤ k) : Below B w w' := (Below.refl B w).grown h hB hr
theorem cell_one (w : World) (u : Value) (t : TypeId) : ∀ j x, [u][j]? = some x → (w.alloc (.cells #[u] t)).cell? ((⟨w.heap.size, 0, none⟩ : Addr).add j) = some x := by
  intro j x hj
  rw [Addr.add_lit]
  match j with
  | 0 => cases hj; exact World.cell?_alloc_mark w _ _ (0, 0) 0
  | j + 1 => cases hj
/-- a number's block is none of a row of numbers -/
theorem Fr.keepRow {B base n : Nat} {w w' : World} {ao : Option Addr} {ca : Nat} {xs : List Nat} {v : Value} {vs : List Value} (h : Fr B w ao ca xs) (ho : w.ownsRow base 30 1 v n vs) (g : w.grownBy w' v.ownBlock) : Fr B w' ao ca xs := by
  obtain ⟨h1, h2, h3, h4⟩ := h
  refine ⟨h1, h2, h3, ?_⟩
  rcases h4 with h4 | ⟨b, e, hb, hw⟩
  · exact .inl h4
  · refine .inr ⟨b, e, hb, hw.grown g ?_⟩
    rcases ho.2 with ⟨rfl, _⟩ | ⟨k, cap, cur, rfl, _, hk, _⟩
    · intro q; cases q
    · intro q
      have : b = k := Option.some.inj q
      subst this
      obtain ⟨cur', h5, _⟩ := hw
      rw [h5] at hk
      cases hk
/-- natural numbers in memory, all of one value -/
def AllN (w : World) (vs : List Value) (N : Nat) : Prop := ∀ u ∈ vs, ∃ (ao : Option Addr) (ca : Nat), u = .slice ao (dig N).length ca ∧ Fr 0 w ao ca (dig N)
theorem AllN.below {w w' : World} {vs : List Value} {N : Nat} (h : AllN w vs N) (b : Below w.heap.size w w') : AllN w' vs N := fun u hu => by
  obtain ⟨a, c, e, hn⟩ := h u hu
  exact ⟨a, c, e, hn.below b⟩
theorem AllN.keepRow {base n : Nat} {w w' : World} {us vs : List Value} {N : Nat} {v : Value} (h : AllN w us N) (ho : w.ownsRow base 30 1 v n vs) (g : w.grownBy w' v.ownBlock) : AllN w' us N := fun u hu => by
  obtain ⟨a, c, e, hn⟩ := h u hu
  exact ⟨a, c, e, hn.keepRow ho g⟩
theorem sm_small {N : Nat} (h : N ≤ 4294967295) : Sm N 1 := ⟨by unfold pw; omega, by omega⟩
theorem rn_one : rn 1 = 1 := by decide

def PrOne (w : World) (e : Ending) (w' : World) : Prop := ∃ (a : Option Addr) (c : Nat) (vs : List Value) (so : Option Addr) (sn sc : Nat), e = .returned (.tuple #[.slice a 3 c, .slice so sn sc]) ∧ w'.ownsRow w.heap.size 30 1 (.slice a 3 c) 3 vs ∧ AllN w' vs 1 ∧ sn = (dig 3).length ∧ Fr 0 w' so sc (dig 3) ∧ Below w.heap.size w w'

end Go.Proofs.YtmhjimcdiglpcaaGreatDoor
/- Layer 10: three units in the order of a comparison that holds them equal: ranked. -/
namespace Go.Proofs.YtmhjimcdiglpcaaGreatDoor
open Go.RowKit Go.Sort

def ints3 (a b c : Int) : List Value := [.int .i64 a, .int .i64 b, .int .i64 c]
def encF (x : Fin 3) : Value := .int .i64 (x.val : Int)
def d3 : Array (Fin 3) := #[0, 1, 2]
theorem row_put {α : Type} [Inhabited α] {w : World} {base g cap n q : Nat} {e : TypeId} {xs : List Value} (enc : α → Value) (d : Array α) (h : w.ownsRow base e 1 (.slice (some ⟨g, 0, none⟩) n cap) n xs) (hd : d.size = n) :
    ((putRow enc w g 0 d).drewN q).ownsRow base e 1 (.slice (some ⟨g, 0, none⟩) n cap) n (d.toList.map enc) ∧ w.grownBy ((putRow enc w g 0 d).drewN q) (some g) := by
  rcases h.2 with ⟨e0, _⟩ | ⟨g', cap', cur, e0, hb, hg, hn, hc, hs, ht⟩
  · cases e0
  · cases e0
    refine ⟨⟨by simp [hd], .inr ⟨g, cap, putCells enc 0 d cur, rfl, hb, ?_, hn, hc, by simp [putCells, hs], ?_⟩⟩, ⟨rfl, rfl, rfl, by simp [putRow, mapBlock, World.drewN], fun k hk hne => ?_⟩⟩
    · simp [putRow, mapBlock, World.drewN, Array.getElem?_modify, hg, onCells]
    · apply List.ext_getElem?
      intro j
      by_cases hj : j < n
      · rw [List.getElem?_take_of_lt (by omega), Array.getElem?_toList]
        have hjd : j < d.size := by omega
        have hjc : j < cur.size := by omega
        simp [putCells, hjd, hjc]
      · rw [List.getElem?_take_eq_none (by omega), List.getElem?_eq_none (by simp; omega)]
    · have : g ≠ k := fun e => hne (by rw [e])
      simp [putRow, mapBlock, World.drewN, Array.getElem?_modify, this]
theorem sw_old {w : World} {blk m k : Nat} {dk : Array (Fin 3)} {os : Array Obj} (hk : k < w.heap.size) (hne : k ≠ blk) : (sortWorld encF w blk 0 m dk os).heap[k]? = w.heap[k]? := by
  unfold sortWorld
  rw [heap_grow_old _ _ (by simpa [putRow, mapBlock, Sort.ahead] using hk)]
  have : blk ≠ k := fun e => hne e.symm
  simp [putRow, mapBlock, Sort.ahead, Array.getElem?_modify, this]
/-- the box of the remainders, and they: three numbers of value 1 -/
def Rem (w : World) (gR gr cR : Nat) : Prop := w.cell? ⟨gR, 0, none⟩ = some (.slice (some ⟨gr, 0, none⟩) 3 cR) ∧ ∀ i, i < 3 → ∃ (ao : Option Addr) (ca : Nat), w.cell? ⟨gr, i, none⟩ = some (.slice ao (dig 1).length ca) ∧ Fr 0 w ao ca (dig 1)
theorem Rem.same {w w' : World} {gR gr cR : Nat} (h : Rem w gR gr cR) (hb : ∀ k, k < w.heap.size → (∃ o v, w.cell? ⟨k, o, none⟩ = some v ∧ (v = .slice (some ⟨gr, 0, none⟩) 3 cR ∨ (∃ a c, v = .slice a (dig 1).length c) ∨ ∃ x, v = .int .u32 x)) → w'.heap[k]? = w.heap[k]?) : Rem w' gR gr cR := by
  obtain ⟨h1, h2⟩ := h
  refine ⟨(World.cell?_of_block (a := ⟨gR, 0, none⟩) (hb gR (World.block_lt_of_cell? _ _ h1) ⟨0, _, h1, .inl rfl⟩)).trans h1, fun i hi => ?_⟩
  obtain ⟨ao, ca, hc, hf⟩ := h2 i hi
  refine ⟨ao, ca, (World.cell?_of_block (a := ⟨gr, i, none⟩) (hb gr (World.block_lt_of_cell? _ _ hc) ⟨i, _, hc, .inr (.inl ⟨_, _, rfl⟩)⟩)).trans hc, ?_⟩
  obtain ⟨f1, f2, f3, f4⟩ := hf
  refine ⟨f1, f2, f3, ?_⟩
  rcases f4 with f4 | ⟨b, e, hB, ho⟩
  · exact .inl f4
  · exact .inr ⟨b, e, hB, ho.block (hb b ho.lt ⟨0, _, ho.cell (by decide), .inr (.inr ⟨_, rfl⟩)⟩)⟩

theorem cmpn_one : cmpn 1 1 = 0 := by decide
def S3 (base g : Nat) (w : World) (e : Ending) (w' : World) : Prop := e = .returned (.tuple #[]) ∧ w'.ownsRow base 3 1 (.slice (some ⟨g, 0, none⟩) 3 3) 3 (ints3 0 1 2) ∧ w.grownBy w' (some g)
theorem ins_const : Sort.insertionSort (ltOf fun _ _ : Fin 3 => 0) d3 0 3 = d3 := by decide +kernel
end Go.Proofs.YtmhjimcdiglpcaaGreatDoor
/- Layer 10: slices.SortStableFunc of three equal units, ranked. -/
namespace Go.Proofs.YtmhjimcdiglpcaaGreatDoor
open Go.RowKit Go.Sort

theorem gbs (w : World) (b j : Nat) (u : Value) : w.grownBy (w.setCell ⟨b, j, none⟩ u) (some b) :=
  ⟨rfl, rfl, rfl, by simp, fun i _ hne => Below.heap_setCell _ _ _ _ (fun e => hne (by rw [e]))⟩
theorem Rem.below {w w' : World} {gR gr cR : Nat} (h : Rem w gR gr cR) (b : Below w.heap.size w w') : Rem w' gR gr cR := h.same fun k hk _ => b.block k hk

/-- the units laid so far -/
def fl : Nat → List Value
  | 0 => ints3 0 0 0
  | 1 => ints3 0 0 0
  | 2 => ints3 0 1 0
  | _ => ints3 0 1 2
theorem fl_set (i : Nat) (hi : i < 3) : (fl i).set i (.int .i64 (i : Int)) = fl (i + 1) := by
  have : i = 0 ∨ i = 1 ∨ i = 2 := by omega
  rcases this with rfl | rfl | rfl <;> rfl
theorem fl_len (i : Nat) : (fl i).length = 3 := by
  unfold fl
  split <;> rfl
def RankPost (w : World) (e : Ending) (w' : World) : Prop := ∃ g, e = .returned (.slice (some ⟨g, 0, none⟩) 3 3) ∧ w'.ownsRow w.heap.size 3 1 (.slice (some ⟨g, 0, none⟩) 3 3) 3 (ints3 0 1 2) ∧ Below w.heap.size w w'

end Go.Proofs.YtmhjimcdiglpcaaGreatDoor
/- Drawn regions by values: the steps one after the other (for texts over numbers). -/
namespace Go.Proofs.YtmhjimcdiglpcaaGreatDoor.SN
open Go.RowKit Go.Sort

/-- each from i on, m of them, one after the other -/
def AllF (S : Nat → Prop) : Nat → Nat → Prop
  | _, 0 => True
  | i, m + 1 => S i ∧ AllF S (i + 1) m
theorem AllF.step {S : Nat → Prop} {i m j : Nat} (hj : i + 1 = j) (h : S i) (t : AllF S j m) : AllF S i (m + 1) := by subst hj; exact ⟨h, t⟩
theorem AllF.at {S : Nat → Prop} : ∀ (m i : Nat), AllF S i m → ∀ k, i ≤ k → k < i + m → S k := by
  intro m
  induction m with
  | zero => intro i _ k h1 h2; omega
  | succ m ih =>
    intro i h k h1 h2
    by_cases hk : k = i
    · subst hk; exact h.1
    · exact ih (i + 1) h.2 k (by omega) (by omega)
theorem AllF.below {S : Nat → Prop} {n : Nat} (h : AllF S 0 n) : AllBelow S n := by
  have : ∀ m, m ≤ n → AllBelow S m := by
    intro m
    induction m with
    | zero => intro _; trivial
    | succ m ih => intro hm; exact ⟨ih (by omega), h.at n 0 m (by omega) (by omega)⟩
  exact this n (Nat.le_refl _)
theorem hpAt {P : Nat → Prop} {l : List Nat} (h : ∀ k ∈ l, P k) (k : Nat) (hk : l.contains k = true) : P k := h k (by simpa using hk)
theorem noOf {D : Nat → Bool} {l : List Nat} {j k : Nat} (hcl : D j = true → ∀ k ∈ l, D k = true) (hk : l.contains k = true) (h : D k = false) : ¬ D j = true := by
  intro hj
  have := hcl hj k (by simpa using hk)
  rw [h] at this
  cases this
theorem noF {D : Nat → Bool} {l : List Nat} {j k : Nat} (hcl : D j = true → ∀ k ∈ l, D k = true) (hk : l.contains k = true) (h : D k = false) : D j = false := by
  cases hd : D j
  · rfl
  · exact absurd hd (noOf hcl hk h)

def RP (l : List (Value → Prop)) (i : Nat) (v : Value) (_ : World) : Prop := (l.getD i (fun _ => True)) v
def pV (x : Value) : Value → Prop := fun v => v = x
def pT : Value → Prop := fun _ => True
end Go.Proofs.YtmhjimcdiglpcaaGreatDoor.SN
/- Layer 10: Allocate of ten among three sizes of 1. -/
namespace Go.Proofs.YtmhjimcdiglpcaaGreatDoor
open Go.RowKit Go.Sort SN

def cl : Nat → List Value
  | 0 => ints3 0 0 0
  | 1 => ints3 3 0 0
  | 2 => ints3 3 3 0
  | _ => ints3 3 3 3
theorem cl_set (i : Nat) (hi : i < 3) : (cl i).set i (.int .i64 3) = cl (i + 1) := by
  have : i = 0 ∨ i = 1 ∨ i = 2 := by omega
  rcases this with rfl | rfl | rfl <;> rfl
theorem cl_len (i : Nat) : (cl i).length = 3 := by
  unfold cl
  split <;> rfl
/-- the remainders laid so far -/
def RemL (w : World) (gM k : Nat) : Prop := ∀ j, j < k → ∃ (ao : Option Addr) (ca : Nat), w.cell? ⟨gM, j, none⟩ = some (.slice ao (dig 1).length ca) ∧ Fr 0 w ao ca (dig 1)
theorem Fr.setne {B g j : Nat} {w : World} {ao : Option Addr} {ca : Nat} {xs : List Nat} {v : Value} {cur : Array Value} {t : TypeId} (h : Fr B w ao ca xs) (hg : w.heap[g]? = some (.cells cur t (0, 0))) (ht : t ≠ 71) : Fr B (w.setCell ⟨g, j, none⟩ v) ao ca xs := by
  obtain ⟨h1, h2, h3, h4⟩ := h
  refine ⟨h1, h2, h3, ?_⟩
  rcases h4 with h4 | ⟨b, e, hb, hw⟩
  · exact .inl h4
  · refine .inr ⟨b, e, hb, hw.block (Below.heap_setCell _ _ _ _ ?_)⟩
    show b ≠ g
    rintro rfl
    obtain ⟨cur', h5, _⟩ := hw
    rw [h5] at hg
    cases hg
    exact ht rfl
theorem row_blk {w : World} {base g n cap : Nat} {e : TypeId} {xs : List Value} (h : w.ownsRow base e 1 (.slice (some ⟨g, 0, none⟩) n cap) n xs) : ∃ cur, w.heap[g]? = some (.cells cur e (0, 0)) := by
  rcases h.2 with ⟨e0, _⟩ | ⟨g', cap', cur, e0, _, hg, _⟩
  · cases e0
  · cases e0; exact ⟨cur, hg⟩
theorem RemL.below {w w' : World} {gM k : Nat} (h : RemL w gM k) (b : Below w.heap.size w w') : RemL w' gM k := fun j hj => by
  obtain ⟨ao, ca, hc, hf⟩ := h j hj
  exact ⟨ao, ca, (World.cell?_of_block (a := ⟨gM, j, none⟩) (b.block gM (World.block_lt_of_cell? _ _ hc))).trans hc, hf.below b⟩
theorem RemL.setne {w : World} {gM k g j : Nat} {v : Value} {cur : Array Value} {t : TypeId} (h : RemL w gM k) (hg : w.heap[g]? = some (.cells cur t (0, 0))) (ht : t ≠ 71) (hne : g ≠ gM) : RemL (w.setCell ⟨g, j, none⟩ v) gM k := fun i hi => by
  obtain ⟨ao, ca, hc, hf⟩ := h i hi
  exact ⟨ao, ca, (World.cell?_setCell_other _ _ _ _ (by intro e; simp only [Addr.mk.injEq] at e; exact hne e.1)).trans hc, hf.setne hg ht⟩
theorem RemL.put {w : World} {gM k ca : Nat} {ao : Option Addr} {cur : Array Value} (h : RemL w gM k) (hg : w.heap[gM]? = some (.cells cur 30 (0, 0))) (hk : k < cur.size) (hf : Fr 0 w ao ca (dig 1)) : RemL (w.setCell ⟨gM, k, none⟩ (.slice ao (dig 1).length ca)) gM (k + 1) := fun i hi => by
  by_cases e : i = k
  · subst e
    exact ⟨ao, ca, World.cell?_setCell_same' _ _ _ (by simp [World.cell?, hg, hk]), hf.setne hg (by decide)⟩
  · obtain ⟨ao', ca', hc, hf'⟩ := h i (by omega)
    exact ⟨ao', ca', (World.cell?_setCell_other _ _ _ _ (by intro q; simp only [Addr.mk.injEq] at q; exact e q.2.1.symm)).trans hc, hf'.setne hg (by decide)⟩

def AlR (gC gM i : Nat) (a5 : Option Addr) (c5 : Nat) : List (Value → Prop) := [pV (.slice (some ⟨gC, 0, none⟩) 3 3), pV (.int .i64 (i : Int)), pV (.slice (some ⟨gM, 0, none⟩) 3 3), pV (.int .i64 (i : Int)), pV (.int .u64 3), pV (.int .i64 3), pV (.slice a5 (dig 1).length c5), pV (.pointer (some ⟨gC, i, none⟩)), pT, pV (.pointer (some ⟨gM, i, none⟩)), pT]
/-- the world within the region of the two stores -/
def WX (gC gM i : Nat) (a5 : Option Addr) (n1 c5 : Nat) (W : World) (D : Nat → Bool) (w : World) : Prop := w = bif D 10 then (W.setCell ⟨gC, i, none⟩ (.int .i64 3)).setCell ⟨gM, i, none⟩ (.slice a5 n1 c5) else bif D 8 then W.setCell ⟨gC, i, none⟩ (.int .i64 3) else W
theorem WX.one {gC gM i : Nat} {a5 : Option Addr} {n1 c5 : Nat} {W : World} {D : Nat → Bool} (h : D 10 = false) : WX gC gM i a5 n1 c5 W (upd D 8) (W.setCell ⟨gC, i, none⟩ (.int .i64 3)) := by
  unfold WX
  have e8 : upd D 8 8 = true := rfl
  have e10 : upd D 8 10 = false := h
  rw [e8, e10]
  rfl
end Go.Proofs.YtmhjimcdiglpcaaGreatDoor
/- Layer 10: the sanity check: ten things for three. -/
namespace Go.Proofs.YtmhjimcdiglpcaaGreatDoor
open Go.RowKit Go.Sort

theorem cellin {w : World} {b j : Nat} {cs : Array Value} {t : TypeId} {v : Value} (h : w.heap[b]? = some (.cells cs t (0, 0))) (hj : cs[j]? = some v) : w.cell? ⟨b, j, none⟩ = some v := by
  simp only [World.cell?, h]
  simp [hj]
theorem rdz_row {w : World} {base n c : Nat} {a : Option Addr} {t : TypeId} {zs : List Int} (_hn : zs.length = n) (h : w.ownsRow base t 1 (.slice a n c) n (C6.intz zs)) : C6.RdZ w a c zs := by
  obtain ⟨ao', cp', e', r', _⟩ := C6.RdV.of_row h
  injection e' with e1 _ e3
  rw [e1, e3]; exact r'
theorem rdz_lit {w : World} {g : Nat} {zs : List Int} {t : TypeId} (h : w.heap[g]? = some (.cells (C6.intz zs).toArray t (0, 0))) (hl : zs.length ≤ 1000) : C6.RdZ w (some ⟨g, 0, none⟩) zs.length zs :=
  ⟨by rw [C6.intz_length]; exact Nat.le_refl _, by omega, .inr ⟨g, 0, rfl, fun i v hi => by rw [Nat.zero_add]; exact cellin h (by simpa using hi)⟩⟩

end Go.Proofs.YtmhjimcdiglpcaaGreatDoor
