import Derived.Test.YtkedgkfdmdlhoaaDoorPrd0
import Derived.Test.YtkedgkfdmdlhoaaDoorPrd1
import Derived.Laws.OwnMore
import Derived.Deep.AppendLies
/- Layer 9: products in memory; package product's copied. -/
namespace Go.Proofs.YtkedgkfdmdlhoaaDoor.P9
open Go.RowKit Go.Sort C6

/-- a product but for its attributes -/
structure Pd where
  id : ByteArray
  co : ByteArray
  br : ByteArray
  d : Int
  c : Int
  a : Int
def Pd.zero : Pd := ⟨⟨#[]⟩, ⟨#[]⟩, ⟨#[]⟩, 0, 0, 0⟩
def pcs (p : Pd) (v : Value) : Array Value := #[.string p.id, .string p.co, .string p.br, .int .i64 p.d, .int .i64 p.c, .int .i64 p.a, v]
def pv (p : Pd) (v : Value) : Value := .agg #[.string p.id, .string p.co, .string p.br, .int .i64 p.d, .int .i64 p.c, .int .i64 p.a, v]
/-- a product's box -/
def PB (w : World) (g : Nat) (p : Pd) (v : Value) : Prop := w.heap[g]? = some (.cells #[.string p.id, .string p.co, .string p.br, .int .i64 p.d, .int .i64 p.c, .int .i64 p.a, v] 26 (0, 0))
theorem PB.cells {w : World} {g : Nat} {p : Pd} {v : Value} (h : PB w g p v) : w.cell? ⟨g, 0, none⟩ = some (.string p.id) ∧ w.cell? ⟨g, 1, none⟩ = some (.string p.co) ∧ w.cell? ⟨g, 2, none⟩ = some (.string p.br) ∧ w.cell? ⟨g, 3, none⟩ = some (.int .i64 p.d) ∧ w.cell? ⟨g, 4, none⟩ = some (.int .i64 p.c) ∧ w.cell? ⟨g, 5, none⟩ = some (.int .i64 p.a) ∧ w.cell? ⟨g, 6, none⟩ = some v := by
  unfold PB at h
  refine ⟨?_, ?_, ?_, ?_, ?_, ?_, ?_⟩ <;> simp [World.cell?, h]
theorem PB.fz {w : World} {g : Nat} {p : Pd} {v : Value} (h : PB w g p v) : w.frozen? ⟨g, 0, none⟩ = false ∧ w.frozen? ⟨g, 1, none⟩ = false ∧ w.frozen? ⟨g, 2, none⟩ = false ∧ w.frozen? ⟨g, 3, none⟩ = false ∧ w.frozen? ⟨g, 4, none⟩ = false ∧ w.frozen? ⟨g, 5, none⟩ = false ∧ w.frozen? ⟨g, 6, none⟩ = false := by
  unfold PB at h
  refine ⟨?_, ?_, ?_, ?_, ?_, ?_, ?_⟩ <;> simp [World.frozen?, h]
theorem PB.lt {w : World} {g : Nat} {p : Pd} {v : Value} (h : PB w g p v) : g < w.heap.size := (Array.getElem?_eq_some_iff.1 h).1
theorem PB.grown {w w' : World} {g : Nat} {p : Pd} {v : Value} {row : Option Nat} (h : PB w g p v) (k : w.grownBy w' row) (hne : some g ≠ row) : PB w' g p v := (k.block g h.lt hne).trans h
theorem PB.below {w w' : World} {g : Nat} {p : Pd} {v : Value} (h : PB w g p v) (b : Below w.heap.size w w') : PB w' g p v := (b.block g h.lt).trans h
theorem PB.keepB {w w' : World} {B g : Nat} {p : Pd} {v : Value} (h : PB w g p v) (b : Below B w w') (hg : g < B) : PB w' g p v := (b.block g hg).trans h
theorem PB.new (w : World) (p : Pd) (v : Value) : PB (w.alloc (.cells #[.string p.id, .string p.co, .string p.br, .int .i64 p.d, .int .i64 p.c, .int .i64 p.a, v] 26)) w.heap.size p v := by
  unfold PB World.alloc
  simp
theorem PB.zero (w : World) : PB (w.alloc (.cells #[.string ⟨#[]⟩, .string ⟨#[]⟩, .string ⟨#[]⟩, .int .i64 0, .int .i64 0, .int .i64 0, .slice none 0 0] 26)) w.heap.size Pd.zero (.slice none 0 0) := PB.new w Pd.zero _
theorem PB.set6 {w : World} {g : Nat} {p : Pd} {v : Value} (h : PB w g p v) (u : Value) : PB (w.setCell ⟨g, 6, none⟩ u) g p u := by
  unfold PB at h ⊢
  simp [World.setCell, Array.getElem?_modify, h]
/-- all seven cells laid -/
def set7 (w : World) (g : Nat) (p : Pd) (v : Value) : World := ((((((w.setCell ⟨g, 0, none⟩ (.string p.id)).setCell ⟨g, 1, none⟩ (.string p.co)).setCell ⟨g, 2, none⟩ (.string p.br)).setCell ⟨g, 3, none⟩ (.int .i64 p.d)).setCell ⟨g, 4, none⟩ (.int .i64 p.c)).setCell ⟨g, 5, none⟩ (.int .i64 p.a)).setCell ⟨g, 6, none⟩ v
theorem set7_heap (w : World) (g : Nat) (p : Pd) (v : Value) {q : Pd} {u : Value} (h : PB w g q u) : PB (set7 w g p v) g p v := by
  unfold PB at h ⊢
  simp [set7, World.setCell, Array.getElem?_modify, h]
theorem set7_gb (w : World) (g : Nat) (p : Pd) (v : Value) : w.grownBy (set7 w g p v) (some g) :=
  gb_trans (gb_trans (gb_trans (gb_trans (gb_trans (gb_trans (gb_set _ _ _ _) (gb_set _ _ _ _)) (gb_set _ _ _ _)) (gb_set _ _ _ _)) (gb_set _ _ _ _)) (gb_set _ _ _ _)) (gb_set _ _ _ _)
theorem set7_below {B : Nat} {A w : World} (h : Below B A w) {g : Nat} (hg : B ≤ g) (hgw : g < w.heap.size) (p : Pd) (v : Value) : Below B A (set7 w g p v) := h.trans (gb_below' (set7_gb w g p v) hg (Nat.le_of_lt hgw))
where
  gb_below' {w w' : World} {B g : Nat} (h : w.grownBy w' (some g)) (hB : B ≤ g) (hgw : g ≤ w.heap.size) : Below B w w' := ⟨h.os, h.tape, h.output, h.size, fun k hk => h.block k (by omega) (fun e => by cases e; omega)⟩
theorem gbB {w w' : World} {B g : Nat} (h : w.grownBy w' (some g)) (hB : B ≤ g) (hgw : g ≤ w.heap.size) : Below B w w' := ⟨h.os, h.tape, h.output, h.size, fun k hk => h.block k (by omega) (fun e => by cases e; omega)⟩
theorem set7_size (w : World) (g : Nat) (p : Pd) (v : Value) : (set7 w g p v).heap.size = w.heap.size := by simp [set7, World.setCell]
theorem row_ne {w : World} {base n size : Nat} {e : TypeId} {v : Value} {xs : List Value} (h : w.ownsRow base e size v n xs) {g : Nat} (hg : g < base) : v.ownBlock = none ∨ v.ownBlock ≠ some g := row_block h hg

/-- the two boxes that a function over a product begins with -/
theorem boxes2 (w : World) (p : Pd) (v : Value) (W : World) (hW : W = (w.alloc (.cells #[.string p.id, .string p.co, .string p.br, .int .i64 p.d, .int .i64 p.c, .int .i64 p.a, v] 26)).alloc (.cells #[.string ⟨#[]⟩, .string ⟨#[]⟩, .string ⟨#[]⟩, .int .i64 0, .int .i64 0, .int .i64 0, .slice none 0 0] 26)) :
    PB W w.heap.size p v ∧ PB W (w.heap.size + 1) Pd.zero (.slice none 0 0) ∧ Below w.heap.size w W ∧ W.heap.size = w.heap.size + 2 := by
  subst hW
  have P1 := PB.new w p v
  have B1 := below_new w (.cells #[.string p.id, .string p.co, .string p.br, .int .i64 p.d, .int .i64 p.c, .int .i64 p.a, v] 26)
  have s1 : (w.alloc (.cells #[.string p.id, .string p.co, .string p.br, .int .i64 p.d, .int .i64 p.c, .int .i64 p.a, v] 26)).heap.size = w.heap.size + 1 := World.size_alloc _ _
  have Q2 := PB.zero (w.alloc (.cells #[.string p.id, .string p.co, .string p.br, .int .i64 p.d, .int .i64 p.c, .int .i64 p.a, v] 26))
  rw [s1] at Q2
  refine ⟨P1.below (below_new _ _), Q2, keep B1 (below_new _ _), ?_⟩
  rw [World.size_alloc, s1]

set_option maxHeartbeats 4000000 in
set_option maxRecDepth 100000 in
theorem copied_v (p : Pd) (ao : Option Addr) (cap : Nat) (l : List Atr) (w : World) (h : RdA w ao cap l) (hl : l.length ≤ 1000) :
    Calls Tryd.prog 32 #[.agg #[.string p.id, .string p.co, .string p.br, .int .i64 p.d, .int .i64 p.c, .int .i64 p.a, .slice ao l.length cap]] w fun e w' => ∃ v, e = .returned (pv p v) ∧ w'.ownsRow (w.heap.size + 2) 52 2 v l.length (atv l) ∧ Below w.heap.size w w' := by
  obtain ⟨i0, hi, hz0, hz1, hz2⟩ := info_parts infoAtr
  cases ao with
  | none =>
    have hc0 : l = [] ∧ cap = 0 := by
      rcases h.2.2 with ⟨e, h⟩ | ⟨b, o, e, _⟩
      · exact ⟨e, h rfl⟩
      · cases e
    obtain ⟨rfl, rfl⟩ := hc0
    clear h hl
    go_enter Tryd.func32, Tryd.ntmps32
    go_wp2_with fail
    refine bodyPost_ret (v := .agg #[.string p.id, .string p.co, .string p.br, .int .i64 p.d, .int .i64 p.c, .int .i64 p.a, .slice none 0 0]) (by simp [results, Tryd.results32, go_sem]) rfl ?_
    exact ⟨.slice none 0 0, rfl, World.ownsRow_nil _ _ _ _, keep (below_new _ _) (below_new _ _)⟩
  | some x0 =>
    obtain ⟨n, hn⟩ : ∃ n, n = l.length := ⟨_, rfl⟩
    have hn1000 : n ≤ 1000 := by omega
    obtain ⟨g, hg⟩ : ∃ g, g = w.heap.size := ⟨_, rfl⟩
    have fin : Hid (∀ (a : Option Addr) (c : Nat) (w3 : World), w3.ownsRow (g + 2) 52 2 (.slice a n c) n (atv l) → PB w3 g p (.slice (some x0) n cap) → PB w3 (g + 1) Pd.zero (.slice none 0 0) → Below g w w3 → PB (set7 (w3.setCell ⟨g, 6, none⟩ (.slice a n c)) (g + 1) p (.slice a n c)) (g + 1) p (.slice a n c) ∧ (set7 (w3.setCell ⟨g, 6, none⟩ (.slice a n c)) (g + 1) p (.slice a n c)).ownsRow (g + 2) 52 2 (.slice a n c) n (atv l) ∧ Below g w (set7 (w3.setCell ⟨g, 6, none⟩ (.slice a n c)) (g + 1) p (.slice a n c))) := by
      intro a c w3 hown hp hq hb
      have k1 := hown.kept (gb_set w3 g 6 (.slice a n c)) (row_ne hown (by omega))
      have q1 : PB (w3.setCell ⟨g, 6, none⟩ (.slice a n c)) (g + 1) Pd.zero (.slice none 0 0) := hq.grown (gb_set _ _ _ _) (by simp)
      have b1 : Below g w (w3.setCell ⟨g, 6, none⟩ (.slice a n c)) := hb.setCell (Nat.le_refl _) _
      exact ⟨set7_heap _ _ _ _ q1, k1.kept (set7_gb _ _ _ _) (row_ne k1 (by omega)), set7_below b1 (by omega) q1.lt _ _⟩
    obtain ⟨W2, hW2⟩ : ∃ W, W = (w.alloc (.cells #[.string p.id, .string p.co, .string p.br, .int .i64 p.d, .int .i64 p.c, .int .i64 p.a, .slice (some x0) n cap] 26)).alloc (.cells #[.string ⟨#[]⟩, .string ⟨#[]⟩, .string ⟨#[]⟩, .int .i64 0, .int .i64 0, .int .i64 0, .slice none 0 0] 26) := ⟨_, rfl⟩
    obtain ⟨P2, Q2, B2, s2⟩ := boxes2 w p (.slice (some x0) n cap) W2 hW2
    have R2 := h.below B2
    have hne : n ≠ 0 ∨ n = 0 := by omega
    have news : ∃ ad, some x0 = some ad ∧ ∀ j u, (atv l)[j]? = some u → W2.cell? (ad.add j) = some u := by
      by_cases h0 : 0 < l.length
      · obtain ⟨b, o, e, hc⟩ := R2.news h0
        exact ⟨_, e, hc⟩
      · have : l = [] := List.eq_nil_of_length_eq_zero (by omega)
        subst this
        exact ⟨x0, rfl, fun j u hj => by simp [atv] at hj⟩
    obtain ⟨ad, had, hnews⟩ := news
    cases had
    have HNW : Hid (∀ j u, (atv l)[j]? = some u → W2.cell? (x0.add j) = some u) := hnews
    have HP2 := Lib.hid P2
    have HQ2 := Lib.hid Q2
    have HB2 := Lib.hid B2
    have HN := Lib.hid hn
    have HS2 := Lib.hid s2
    rw [← hn]
    obtain ⟨k0, k1, k2, k3, k4, k5, k6⟩ := P2.cells
    clear h hl hn P2 Q2 B2 R2 hnews hne s2
    go_enter Tryd.func32, Tryd.ntmps32
    go_wp2_with (at_builtin; rw [← hW2]; refine wpList_append_own _ rfl _ _ 24 rfl (w.heap.size + 2) 52 i0 (.agg #[.string ByteArray.empty, .string ByteArray.empty]) 2 32 Tryd.underlying24 hi hz0 hz1 hz2 rfl (by decide) _ 0 [] rfl (World.ownsRow_nil _ _ _ _) x0 n cap (atv l) rfl (by rw [atv_length]; have := HN.out; omega) HNW.out (atv_one' l) (by unfold maxLen; omega) (by omega) (by rw [HS2.out]; exact Nat.le_refl _) ?_; intro v3 w3 hown3 hgr3 _; obtain ⟨a3, c3, rfl⟩ := of_row_n hown3; have G3 : Hid (W2.grownBy w3 none) := hgr3; have P3 : Hid (PB w3 w.heap.size p (.slice (some x0) n cap)) := HP2.out.grown G3.out (by simp); have Q3 : Hid (PB w3 (w.heap.size + 1) Pd.zero (.slice none 0 0)) := HQ2.out.grown G3.out (by simp); obtain ⟨k0, k1, k2, k3, k4, k5, k6⟩ := P3.out.cells; obtain ⟨f0, f1, f2, f3, f4, f5, f6⟩ := P3.out.fz; obtain ⟨q0, q1, q2, q3, q4, q5, q6⟩ := Q3.out.fz; obtain ⟨r0, r1, r2, r3, r4, r5, r6⟩ := Q3.out.cells; have O3 := Lib.hid hown3; clear hown3 hgr3)
    have O4 : w3.ownsRow (g + 2) 52 2 (.slice a3 n c3) n (atv l) := by
      have := O3.out
      rw [Nat.zero_add] at this
      rw [hg]
      exact this
    have hP := P3.out
    have hQ := Q3.out
    rw [← hg] at hP hQ
    have hB : Below g w w3 := by rw [hg]; exact HB2.out.trans (Below.grown (Below.refl _ _) G3.out HB2.out.size (fun k e => by cases e))
    obtain ⟨z1, z2, z3⟩ := fin.out a3 c3 w3 O4 hP hQ hB
    rw [hg] at z2 z3
    refine bodyPost_ret (v := .agg #[.string p.id, .string p.co, .string p.br, .int .i64 p.d, .int .i64 p.c, .int .i64 p.a, .slice a3 n c3]) (by simp [results, Tryd.results32, go_sem, r0, r1, r2, r3, r4, r5, r6]) rfl ?_
    exact ⟨.slice a3 n c3, rfl, z2, z3⟩
end Go.Proofs.YtkedgkfdmdlhoaaDoor.P9
