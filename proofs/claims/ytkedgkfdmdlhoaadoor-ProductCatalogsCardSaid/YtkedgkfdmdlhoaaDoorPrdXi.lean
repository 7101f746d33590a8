import Derived.Test.YtkedgkfdmdlhoaaDoorPrdRi
import Derived.Test.YtkedgkfdmdlhoaaDoorPrd8
/- Layer 9: the law's spoiled: an article of the tape with at most one fault. -/
namespace Go.Proofs.YtkedgkfdmdlhoaaDoor.P9
open Go.RowKit Go.Sort C6

theorem own_mono9 {w : World} {base base' n size : Nat} {e : TypeId} {v : Value} {xs : List Value} (h : w.ownsRow base e size v n xs) (hb : base' ≤ base) : w.ownsRow base' e size v n xs :=
  ⟨h.1, h.2.imp id fun ⟨g, cap, cur, hv, h1, h2⟩ => ⟨g, cap, cur, hv, Nat.le_trans hb h1, h2⟩⟩
/-- what spoiled keeps: the tape, the article's box and its row of attributes -/
structure Sd (w wr : World) (B : Nat) (ao : Option Addr) (tn cap g gr j b c n : Nat) (p : Pd) (l : List Atr) : Prop where
  tap : Tap wr B ao tn cap j
  box : PB wr g p (.slice (some ⟨b, 0, none⟩) n c)
  zer : PB wr gr Pd.zero (.slice none 0 0)
  own : wr.ownsRow (gr + 1) 52 2 (.slice (some ⟨b, 0, none⟩) n c) n (atv l)
  ne : b ≠ g
  gb : w.grownBy wr (some B)
  sz : Sz p l
theorem Sd.len {w wr : World} {B : Nat} {ao : Option Addr} {tn cap g gr j b c n : Nat} {p : Pd} {l : List Atr} (h : Sd w wr B ao tn cap g gr j b c n p l) : l.length = n := by
  have := h.own.1
  rw [atv_length] at this
  omega
theorem Sd.next {w wr w' : World} {B : Nat} {ao : Option Addr} {tn cap g gr j j' b c n : Nat} {p : Pd} {l : List Atr} (h : Sd w wr B ao tn cap g gr j b c n p l) (k : wr.grownBy w' (some B)) (t : Tap w' B ao tn cap j') (h1 : B < gr) (h2 : gr < g) : Sd w w' B ao tn cap g gr j' b c n p l :=
  ⟨t, h.box.grown k (fun e => by have := Option.some.inj e; omega), h.zer.grown k (fun e => by have := Option.some.inj e; omega), h.own.kept k (row_ne h.own (by omega)), h.ne, gb_trans h.gb k, h.sz⟩
theorem Sd.below {w wr w' : World} {B : Nat} {ao : Option Addr} {tn cap g gr j b c n : Nat} {p : Pd} {l : List Atr} (h : Sd w wr B ao tn cap g gr j b c n p l) (k : Below wr.heap.size wr w') : Sd w w' B ao tn cap g gr j b c n p l :=
  ⟨h.tap.keep k, h.box.below k, h.zer.below k, own_below h.own k, h.ne, gb_trans h.gb (below_gb k _), h.sz⟩
theorem Sd.drew {w wr : World} {B : Nat} {ao : Option Addr} {tn cap g gr j b c n : Nat} {p : Pd} {l : List Atr} (h : Sd w wr B ao tn cap g gr j b c n p l) : Sd w wr.drew B ao tn cap g gr j b c n p l :=
  ⟨h.tap, h.box, h.zer, h.own, h.ne, gb_drew h.gb, h.sz⟩
/-- another article in the box -/
theorem Sd.put {w wr w' : World} {B : Nat} {ao : Option Addr} {tn cap g gr j b c n : Nat} {p p' : Pd} {l : List Atr} (h : Sd w wr B ao tn cap g gr j b c n p l) (h1 : B < gr) (h2 : gr < g) (hw : w.heap.size ≤ gr) (k : wr.grownBy w' (some g)) (hb : PB w' g p' (.slice (some ⟨b, 0, none⟩) n c)) (hs : Sz p' l) : Sd w w' B ao tn cap g gr j b c n p' l :=
  ⟨h.tap.grown k (fun e => by have := Option.some.inj e; omega), hb, h.zer.grown k (fun e => by have := Option.some.inj e; omega), h.own.kept k (.inr (fun e => h.ne (Option.some.inj e))), h.ne,
    ⟨k.os.trans h.gb.os, k.tape.trans h.gb.tape, k.output.trans h.gb.output, Nat.le_trans h.gb.size k.size, fun q hq hn => (k.block q (Nat.lt_of_lt_of_le hq h.gb.size) (fun e => by have := Option.some.inj e; omega)).trans (h.gb.block q hq hn)⟩, hs⟩
/-- another row of attributes in place -/
theorem Sd.row {w wr w' : World} {B : Nat} {ao : Option Addr} {tn cap g gr j b c n : Nat} {p : Pd} {l l' : List Atr} (h : Sd w wr B ao tn cap g gr j b c n p l) (h1 : B < gr) (hw : w.heap.size ≤ gr) (k : wr.grownBy w' (some b)) (ho : w'.ownsRow (gr + 1) 52 2 (.slice (some ⟨b, 0, none⟩) n c) n (atv l')) (hs : Sz p l') : Sd w w' B ao tn cap g gr j b c n p l' := by
  have hb := (h.own.lt b rfl).1
  have hne := h.ne
  exact ⟨h.tap.grown k (fun e => by have := Option.some.inj e; omega), h.box.grown k (fun e => hne (Option.some.inj e).symm), h.zer.grown k (fun e => by have := Option.some.inj e; omega), ho, h.ne,
    ⟨k.os.trans h.gb.os, k.tape.trans h.gb.tape, k.output.trans h.gb.output, Nat.le_trans h.gb.size k.size, fun q hq hn => (k.block q (Nat.lt_of_lt_of_le hq h.gb.size) (fun e => by have := Option.some.inj e; omega)).trans (h.gb.block q hq hn)⟩, hs⟩

def SdPost (w : World) (B : Nat) (ao : Option Addr) (tn cap j : Nat) (e : Ending) (w' : World) : Prop :=
  ∃ (p : Pd) (b c : Nat) (l : List Atr), e = .returned (.agg #[.string p.id, .string p.co, .string p.br, .int .i64 p.d, .int .i64 p.c, .int .i64 p.a, .slice (some ⟨b, 0, none⟩) l.length c]) ∧ w'.ownsRow w.heap.size 52 2 (.slice (some ⟨b, 0, none⟩) l.length c) l.length (atv l) ∧ l.length ≤ 14 ∧ Sz p l ∧
    w.grownBy w' (some B) ∧ ∃ j', j' ≤ j + 40 ∧ Tap w' B ao tn cap j'
theorem Sd.done {w wr : World} {B : Nat} {ao : Option Addr} {tn cap g gr i j b c n : Nat} {p : Pd} {l : List Atr} (h : Sd w wr B ao tn cap g gr j b c n p l) (h1 : B < gr) (hgr : gr = w.heap.size) (hj : j ≤ i + 40) (hn : n ≤ 14) :
    SdPost w B ao tn cap i (.returned (.agg #[.string p.id, .string p.co, .string p.br, .int .i64 p.d, .int .i64 p.c, .int .i64 p.a, .slice (some ⟨b, 0, none⟩) n c])) (set7 wr gr p (.slice (some ⟨b, 0, none⟩) n c)) := by
  obtain rfl : l.length = n := h.len
  have hs := set7_gb wr gr p (.slice (some ⟨b, 0, none⟩) l.length c)
  refine ⟨p, b, c, l, rfl, own_mono9 (h.own.kept hs (row_ne h.own (by omega))) (by omega), hn, h.sz, ?_, j, hj, h.tap.grown hs (fun e => by have := Option.some.inj e; omega)⟩
  exact ⟨hs.os.trans h.gb.os, hs.tape.trans h.gb.tape, hs.output.trans h.gb.output, Nat.le_trans h.gb.size hs.size, fun q hq hn => (hs.block q (Nat.lt_of_lt_of_le hq h.gb.size) (fun e => by have := Option.some.inj e; omega)).trans (h.gb.block q hq hn)⟩

/-- all is as it was but for the tape's block, the article's box and its row -/
structure Fx (B g b : Nat) (w w' : World) : Prop where
  os : w'.os = w.os
  tape : w'.tape = w.tape
  output : w'.output = w.output
  size : w.heap.size ≤ w'.heap.size
  block : ∀ k, k < w.heap.size → k ≠ B → k ≠ g → k ≠ b → w'.heap[k]? = w.heap[k]?
theorem Fx.refl (B g b : Nat) (w : World) : Fx B g b w w := ⟨rfl, rfl, rfl, Nat.le_refl _, fun _ _ _ _ _ => rfl⟩
theorem Fx.trans {B g b : Nat} {w w' w'' : World} (h : Fx B g b w w') (k : Fx B g b w' w'') : Fx B g b w w'' := ⟨k.os.trans h.os, k.tape.trans h.tape, k.output.trans h.output, Nat.le_trans h.size k.size, fun q hq h1 h2 h3 => (k.block q (Nat.lt_of_lt_of_le hq h.size) h1 h2 h3).trans (h.block q hq h1 h2 h3)⟩
theorem Fx.of {B g b : Nat} {w w' : World} {row : Option Nat} (h : w.grownBy w' row) (hr : row = some B ∨ row = some g ∨ row = some b ∨ row = none) : Fx B g b w w' := ⟨h.os, h.tape, h.output, h.size, fun q hq h1 h2 h3 => h.block q hq (fun e => by rcases hr with r | r | r | r <;> rw [r] at e <;> cases e <;> contradiction)⟩
theorem Fx.alloc {B g b : Nat} (w : World) (o : Obj) : Fx B g b w (w.alloc o) := Fx.of (below_gb (below_new w o) none) (.inr (.inr (.inr rfl)))
theorem Fx.drew {B g b : Nat} {w w' : World} (h : Fx B g b w w') : Fx B g b w w'.drew := ⟨h.os, h.tape, h.output, h.size, h.block⟩
theorem Fx.rdz {B g b : Nat} {w w' : World} (h : Fx B g b w w') {ao : Option Addr} {cap : Nat} {vs : List Value} (hr : RdV w ao cap vs) (hb : 0 < vs.length → ∀ b o, ao = some ⟨b, o, none⟩ → b < B) (h1 : B < g) (h2 : B < b) : RdV w' ao cap vs := by
  refine ⟨hr.1, hr.2.1, ?_⟩
  rcases hr.2.2 with hn | ⟨q, o, e, hc⟩
  · exact .inl hn
  · refine .inr ⟨q, o, e, fun i v hi => ?_⟩
    have hl : 0 < vs.length := by have := (List.getElem?_eq_some_iff.1 hi).1; omega
    have hbB := hb hl q o e
    have h1 := hc i v hi
    have hlt : q < w.heap.size := World.block_lt_of_cell? _ _ h1
    exact (World.cell?_of_block (a := ⟨q, o + i, none⟩) (h.block q hlt (by omega) (by omega) (by omega))).trans h1
def fRow (B g b n : Nat) (t : TypeId) (cs : Array Value) : Value → World → Prop := fun v w => ∃ q, v = .slice (some ⟨q, 0, none⟩) n n ∧ (q ≠ B ∧ q ≠ g ∧ q ≠ b) ∧ w.heap[q]? = some (.cells cs t (0, 0))
def fAt (B g b m : Nat) (t : TypeId) (cs : Array Value) : Value → World → Prop := fun v w => ∃ q r, v = .pointer (some ⟨q, r, none⟩) ∧ r < m ∧ (q ≠ B ∧ q ≠ g ∧ q ≠ b) ∧ w.heap[q]? = some (.cells cs t (0, 0))
def StF (B g b : Nat) (p : Value → World → Prop) : Prop := ∀ v w w', p v w → Fx B g b w w' → p v w'
theorem Fx.keepR {B g b : Nat} {w w' : World} (h : Fx B g b w w') {q : Nat} {cs : Array Value} {t : TypeId} (hq : q ≠ B ∧ q ≠ g ∧ q ≠ b) (hr : w.heap[q]? = some (.cells cs t (0, 0))) : w'.heap[q]? = some (.cells cs t (0, 0)) :=
  (h.block q (Array.getElem?_eq_some_iff.1 hr).1 hq.1 hq.2.1 hq.2.2).trans hr
theorem StF.val {B g b : Nat} (x : Value) : StF B g b (kVal x) := fun _ _ _ h _ => h
theorem StF.sat {B g b : Nat} (q : Value → Prop) : StF B g b (kSat q) := fun _ _ _ h _ => h
theorem StF.any {B g b : Nat} : StF B g b kAny := fun _ _ _ _ _ => trivial
theorem StF.row {B g b n : Nat} {t : TypeId} (cs : Array Value) : StF B g b (fRow B g b n t cs) := by
  rintro v w w' ⟨q, h1, h2, h3⟩ hE
  exact ⟨q, h1, h2, hE.keepR h2 h3⟩
theorem StF.at {B g b m : Nat} {t : TypeId} (cs : Array Value) : StF B g b (fAt B g b m t cs) := by
  rintro v w w' ⟨q, r, h1, h2, h3, h4⟩ hE
  exact ⟨q, r, h1, h2, h3, hE.keepR h3 h4⟩
def StL (B g b : Nat) : List (Value → World → Prop) → Prop
  | [] => True
  | p :: l => StF B g b p ∧ StL B g b l
theorem StL.all {B g b : Nat} : ∀ {l : List (Value → World → Prop)}, StL B g b l → ∀ p ∈ l, StF B g b p
  | [], _, p, hp => by simp at hp
  | q :: l, h, p, hp => by
    rcases List.mem_cons.1 hp with rfl | hp
    · exact h.1
    · exact h.2.all p hp
theorem RLs.stF {B g b : Nat} {l : List (Value → World → Prop)} (h : ∀ p ∈ l, StF B g b p) (i : Nat) (v : Value) (w w' : World) (hr : RLs l i v w) (hE : Fx B g b w w') : RLs l i v w' := by
  unfold RLs at hr ⊢
  rw [List.getD] at hr ⊢
  cases hg : l[i]? with
  | none => trivial
  | some p =>
    rw [hg] at hr
    exact h p (List.mem_of_getElem? hg) v w w' hr hE
/-- a short string's cell -/
def kStr : Value → Prop := fun v => ∃ x : ByteArray, v = .string x ∧ x.size ≤ 100
theorem cell_str {w : World} {q r m : Nat} {cs : Array Value} {t : TypeId} (h : w.heap[q]? = some (.cells cs t (0, 0))) (hr : r < m) (hm : cs.size = m) (hk : ∀ v ∈ cs.toList, kStr v) : ∃ x : ByteArray, w.cell? ⟨q, r, none⟩ = some (.string x) ∧ x.size ≤ 100 := by
  have hl : r < cs.size := by omega
  obtain ⟨x, hx, hs⟩ := hk cs[r] (by simp)
  exact ⟨x, cell_in h (by rw [Array.getElem?_eq_getElem hl, hx]), hs⟩
theorem ks_lit {x : ByteArray} (h : x.size ≤ 100 := by decide) : kStr (.string x) := ⟨x, rfl, h⟩
theorem ks_ext (s : ByteArray) (a m : Nat) (h : m ≤ a + 100) : (s.extract a m).size ≤ 100 := by rw [ByteArray.size_extract]; omega
/-- a string stored into a row of attributes -/
theorem atv_set (l : List Atr) (r : Nat) (hr : r < l.length) (x : ByteArray) : (atv l).set (r * 2) (.string x) = atv (l.set r (x, (l.getD r e2).2)) ∧ (atv l).set (r * 2 + 1) (.string x) = atv (l.set r ((l.getD r e2).1, x)) := by
  induction l generalizing r with
  | nil => simp at hr
  | cons a l ih =>
    cases r with
    | zero => simp [atv, encA]
    | succ r =>
      have := ih r (by simpa using hr)
      have e : (a :: l).getD (r + 1) e2 = l.getD r e2 := by simp [List.getD]
      rw [e, List.set_cons_succ, List.set_cons_succ, atv_cons, atv_cons, atv_cons, show (r + 1) * 2 = r * 2 + 1 + 1 by omega]
      simp only [List.set_cons_succ]
      rw [this.1]
      exact ⟨rfl, by rw [this.2]⟩
theorem Sz.set {p : Pd} {l : List Atr} (h : Sz p l) (r : Nat) (hr : r < l.length) (x : ByteArray) (hx : x.size ≤ 100) : Sz p (l.set r (x, (l.getD r e2).2)) ∧ Sz p (l.set r ((l.getD r e2).1, x)) := by
  have hm : l.getD r e2 ∈ l := by simp [List.getD, hr]
  have hg := h.at1 _ hm
  exact ⟨⟨h.co, h.br, fun y hy => (List.mem_or_eq_of_mem_set hy).elim (h.at1 y) (fun e => by rw [e]; exact ⟨hx, hg.2⟩), h.id, h.qb⟩, ⟨h.co, h.br, fun y hy => (List.mem_or_eq_of_mem_set hy).elim (h.at1 y) (fun e => by rw [e]; exact ⟨hg.1, hx⟩), h.id, h.qb⟩⟩
theorem PB.s0 {w : World} {g : Nat} {p : Pd} {v : Value} (h : PB w g p v) (x : ByteArray) : PB (w.setCell ⟨g, 0, none⟩ (.string x)) g ⟨x, p.co, p.br, p.d, p.c, p.a⟩ v := by
  unfold PB at h ⊢
  simp [World.setCell, Array.getElem?_modify, h]
theorem PB.s1 {w : World} {g : Nat} {p : Pd} {v : Value} (h : PB w g p v) (x : ByteArray) : PB (w.setCell ⟨g, 1, none⟩ (.string x)) g ⟨p.id, x, p.br, p.d, p.c, p.a⟩ v := by
  unfold PB at h ⊢
  simp [World.setCell, Array.getElem?_modify, h]
theorem PB.s2 {w : World} {g : Nat} {p : Pd} {v : Value} (h : PB w g p v) (x : ByteArray) : PB (w.setCell ⟨g, 2, none⟩ (.string x)) g ⟨p.id, p.co, x, p.d, p.c, p.a⟩ v := by
  unfold PB at h ⊢
  simp [World.setCell, Array.getElem?_modify, h]
theorem PB.s345 {w : World} {g : Nat} {p : Pd} {v : Value} (h : PB w g p v) (d c a : Int) : PB (((w.setCell ⟨g, 3, none⟩ (.int .i64 d)).setCell ⟨g, 4, none⟩ (.int .i64 c)).setCell ⟨g, 5, none⟩ (.int .i64 a)) g ⟨p.id, p.co, p.br, d, c, a⟩ v := by
  unfold PB at h ⊢
  simp [World.setCell, Array.getElem?_modify, h]
theorem own_some {w : World} {base n size : Nat} {e : TypeId} {v : Value} {xs : List Value} (h : w.ownsRow base e size v n xs) (hn : 0 < n) : ∃ b cap, v = .slice (some ⟨b, 0, none⟩) n cap ∧ base ≤ b ∧ b < w.heap.size := by
  rcases h.2 with ⟨rfl, h0⟩ | ⟨g, cap, cur, rfl, hb, hg, _⟩
  · omega
  · exact ⟨g, cap, rfl, hb, (Array.getElem?_eq_some_iff.1 hg).1⟩
theorem no_pb {w : World} {base n cap b g : Nat} {p : Pd} {u : Value} {xs : List Value} (h : w.ownsRow base 52 2 (.slice (some ⟨b, 0, none⟩) n cap) n xs) (hp : PB w g p u) : b ≠ g := by
  rintro rfl
  rcases h.2 with ⟨e, _⟩ | ⟨g', cap', cur, e, _, hg, _⟩
  · cases e
  · cases e
    unfold PB at hp
    rw [hp] at hg
    simp at hg
/-- a longer row of attributes, laid into the article -/
theorem Sd.app {w wr w4 : World} {B : Nat} {ao : Option Addr} {tn cap g gr j b c n b4 c4 n4 : Nat} {p : Pd} {l l4 : List Atr} (h : Sd w wr B ao tn cap g gr j b c n p l) (h1 : B < gr) (h2 : gr < g) (hw : w.heap.size ≤ gr) (k : wr.grownBy w4 (some b)) (ho : w4.ownsRow (gr + 1) 52 2 (.slice (some ⟨b4, 0, none⟩) n4 c4) n4 (atv l4)) (hs : Sz p l4) :
    Sd w (w4.setCell ⟨g, 6, none⟩ (.slice (some ⟨b4, 0, none⟩) n4 c4)) B ao tn cap g gr j b4 c4 n4 p l4 := by
  have hb := (h.own.lt b rfl).1
  have hne := h.ne
  have hbx := h.box.grown k (fun e => hne (Option.some.inj e).symm)
  have hne4 := no_pb ho hbx
  have kg := gb_set w4 g 6 (.slice (some ⟨b4, 0, none⟩) n4 c4)
  exact ⟨(h.tap.grown k (fun e => by have := Option.some.inj e; omega)).grown kg (fun e => by have := Option.some.inj e; omega), hbx.set6 _, (h.zer.grown k (fun e => by have := Option.some.inj e; omega)).grown kg (fun e => by have := Option.some.inj e; omega), ho.kept kg (.inr (fun e => hne4 (Option.some.inj e))), hne4,
    ⟨kg.os.trans (k.os.trans h.gb.os), kg.tape.trans (k.tape.trans h.gb.tape), kg.output.trans (k.output.trans h.gb.output), Nat.le_trans h.gb.size (Nat.le_trans k.size kg.size), fun q hq hn => ((kg.block q (Nat.lt_of_lt_of_le hq (Nat.le_trans h.gb.size k.size)) (fun e => by have := Option.some.inj e; omega)).trans (k.block q (Nat.lt_of_lt_of_le hq h.gb.size) (fun e => by have := Option.some.inj e; omega))).trans (h.gb.block q hq hn)⟩, hs⟩
theorem idB_sz (k : Nat) : (idB k).size ≤ 100 := by
  have h : (idB k).size = 8 := by show (idL k).toArray.size = 8; rw [List.size_toArray, idL_length]
  omega
theorem item_sz {k : Nat} {q : Pd} {x y : ByteArray} {m : List Atr} (hq : ITM k q) (hx : VPw x) (hy : VCo y) (hm : m = [(pwr, x), (clr, y)] ∨ m = [(clr, y), (pwr, x)]) : Sz q m := by
  have h1 : pwr.size ≤ 100 := by decide
  have h2 : clr.size ≤ 100 := by decide
  have h3 : x.size ≤ 100 := by rcases hx with rfl | rfl | rfl | rfl <;> decide
  have h4 : y.size ≤ 100 := by rcases hy with rfl | rfl | rfl <;> decide
  refine ⟨by rcases hq.2.1 with h | h <;> rw [h] <;> decide, by rw [hq.2.2.1]; decide, fun z hz => ?_, by rw [hq.1]; exact idB_sz k, by obtain ⟨_, _, _, h1, h2, t, h3, h4, h5⟩ := hq; rw [h1, h2, h3]; exact ⟨by decide, by decide, by decide, by decide, by omega, by omega⟩⟩
  rcases hm with rfl | rfl <;> simp at hz <;> rcases hz with rfl | rfl
  · exact ⟨h1, h3⟩
  · exact ⟨h2, h4⟩
  · exact ⟨h2, h4⟩
  · exact ⟨h1, h3⟩
theorem RdV.gb9 {w w' : World} {B : Nat} {ao : Option Addr} {cap : Nat} {vs : List Value} (h : RdV w ao cap vs) (hn : 0 < vs.length → ∀ b o, ao = some ⟨b, o, none⟩ → b < B) (hB : B ≤ w.heap.size) (g : w.grownBy w' (some B)) : RdV w' ao cap vs := h.keep hn (gb_below g hB)
def SpX9 (w : World) (B : Nat) (ao : Option Addr) (tn cap g gr jj b c n : Nat) (p : Pd) (l : List Atr) (D : Nat → Bool) (_f : Nat → Value) (w' : World) : Prop := (D 10 = false → Sd w w' B ao tn cap g gr (jj + (bif D 6 then 1 else 0)) b c n p l) ∧ (D 10 = true → ∃ p', Sd w w' B ao tn cap g gr (jj + 1) b c n p' l)
def SpR9 (B g b : Nat) (_b0 _n0 _c0 : Nat) : List (Value → World → Prop) := [kVal (.string ⟨#[97, 98, 99, 100, 101, 102, 103, 104, 105, 106, 107, 108, 109, 110, 111, 112, 113, 114, 115, 116, 117, 118, 119, 120, 121, 122]⟩), kVal (.string ((⟨#[97, 98, 99, 100, 101, 102, 103, 104, 105, 106, 107, 108, 109, 110, 111, 112, 113, 114, 115, 116, 117, 118, 119, 120, 121, 122]⟩ : ByteArray).extract 0 24)), kVal (.string ⟨#[97, 98, 99, 100, 101, 102, 103, 104, 105, 106, 107, 108, 109, 110, 111, 112, 113, 114, 115, 116, 117, 118, 119, 120, 121, 122]⟩), kVal (.string ((⟨#[97, 98, 99, 100, 101, 102, 103, 104, 105, 106, 107, 108, 109, 110, 111, 112, 113, 114, 115, 116, 117, 118, 119, 120, 121, 122]⟩ : ByteArray).extract 0 25)), fRow B g b 8 9 #[.string ⟨#[]⟩, .string ⟨#[65]⟩, .string ⟨#[45, 97]⟩, .string ((⟨#[97, 98, 99, 100, 101, 102, 103, 104, 105, 106, 107, 108, 109, 110, 111, 112, 113, 114, 115, 116, 117, 118, 119, 120, 121, 122]⟩ : ByteArray).extract 0 24), .string ((⟨#[97, 98, 99, 100, 101, 102, 103, 104, 105, 106, 107, 108, 109, 110, 111, 112, 113, 114, 115, 116, 117, 118, 119, 120, 121, 122]⟩ : ByteArray).extract 0 25), .string ⟨#[97, 32, 98]⟩, .string ⟨#[46, 120]⟩, .string ⟨#[48, 46, 45]⟩], kVal (.pointer (some ⟨B, 0, none⟩)), kSat (fun v => ∃ r : Nat, v = .int .i64 (r : Int) ∧ r < 8), fAt B g b 8 9 #[.string ⟨#[]⟩, .string ⟨#[65]⟩, .string ⟨#[45, 97]⟩, .string ((⟨#[97, 98, 99, 100, 101, 102, 103, 104, 105, 106, 107, 108, 109, 110, 111, 112, 113, 114, 115, 116, 117, 118, 119, 120, 121, 122]⟩ : ByteArray).extract 0 24), .string ((⟨#[97, 98, 99, 100, 101, 102, 103, 104, 105, 106, 107, 108, 109, 110, 111, 112, 113, 114, 115, 116, 117, 118, 119, 120, 121, 122]⟩ : ByteArray).extract 0 25), .string ⟨#[97, 32, 98]⟩, .string ⟨#[46, 120]⟩, .string ⟨#[48, 46, 45]⟩], kSat kStr, kVal (.pointer (some ⟨g, 2, none⟩)), kAny]
def SpX13 (w : World) (B : Nat) (ao : Option Addr) (tn cap g gr jj b c n : Nat) (p : Pd) (l : List Atr) (D : Nat → Bool) (_f : Nat → Value) (w' : World) : Prop := (D 13 = false → Sd w w' B ao tn cap g gr (jj + (bif D 8 then 2 else (bif D 3 then 1 else 0))) b c n p l) ∧ (D 13 = true → ∃ l', Sd w w' B ao tn cap g gr (jj + 2) b c n p l')
def SpR13 (B g b : Nat) (b0 n0 c0 : Nat) : List (Value → World → Prop) := [kVal (.pointer (some ⟨g, 6, none⟩)), kVal (.slice (some ⟨b0, 0, none⟩) n0 c0), kVal (.pointer (some ⟨B, 0, none⟩)), kSat (fun v => ∃ r : Nat, v = .int .i64 (r : Int) ∧ r < 2), kVal (.string ⟨#[97, 98, 99, 100, 101, 102, 103, 104, 105, 106, 107, 108, 109, 110, 111, 112, 113, 114, 115, 116, 117, 118, 119, 120, 121, 122]⟩), kVal (.string ((⟨#[97, 98, 99, 100, 101, 102, 103, 104, 105, 106, 107, 108, 109, 110, 111, 112, 113, 114, 115, 116, 117, 118, 119, 120, 121, 122]⟩ : ByteArray).extract 0 25)), fRow B g b 5 9 #[.string ⟨#[]⟩, .string ⟨#[112, 111, 119, 101, 114]⟩, .string ⟨#[99, 111, 108, 111, 117, 114]⟩, .string ⟨#[88]⟩, .string ((⟨#[97, 98, 99, 100, 101, 102, 103, 104, 105, 106, 107, 108, 109, 110, 111, 112, 113, 114, 115, 116, 117, 118, 119, 120, 121, 122]⟩ : ByteArray).extract 0 25)], kVal (.pointer (some ⟨B, 0, none⟩)), kSat (fun v => ∃ r : Nat, v = .int .i64 (r : Int) ∧ r < 5), fAt B g b 5 9 #[.string ⟨#[]⟩, .string ⟨#[112, 111, 119, 101, 114]⟩, .string ⟨#[99, 111, 108, 111, 117, 114]⟩, .string ⟨#[88]⟩, .string ((⟨#[97, 98, 99, 100, 101, 102, 103, 104, 105, 106, 107, 108, 109, 110, 111, 112, 113, 114, 115, 116, 117, 118, 119, 120, 121, 122]⟩ : ByteArray).extract 0 25)], kSat kStr, kSat (fun v => ∃ r : Nat, r < 2 ∧ v = .pointer (some ⟨b0, r * 2, none⟩)), kSat (fun v => ∃ r : Nat, r < 2 ∧ v = .pointer (some ⟨b0, r * 2, none⟩)), kAny]
def SpX15 (w : World) (B : Nat) (ao : Option Addr) (tn cap g gr jj b c n : Nat) (p : Pd) (l : List Atr) (D : Nat → Bool) (_f : Nat → Value) (w' : World) : Prop := (D 15 = false → Sd w w' B ao tn cap g gr (jj + (bif D 10 then 2 else (bif D 3 then 1 else 0))) b c n p l) ∧ (D 15 = true → ∃ l', Sd w w' B ao tn cap g gr (jj + 2) b c n p l')
def SpR15 (B g b : Nat) (b0 n0 c0 : Nat) : List (Value → World → Prop) := [kVal (.pointer (some ⟨g, 6, none⟩)), kVal (.slice (some ⟨b0, 0, none⟩) n0 c0), kVal (.pointer (some ⟨B, 0, none⟩)), kSat (fun v => ∃ r : Nat, v = .int .i64 (r : Int) ∧ r < 2), kVal (.string ⟨#[97, 98, 99, 100, 101, 102, 103, 104, 105, 106, 107, 108, 109, 110, 111, 112, 113, 114, 115, 116, 117, 118, 119, 120, 121, 122]⟩), kVal (.string ((⟨#[97, 98, 99, 100, 101, 102, 103, 104, 105, 106, 107, 108, 109, 110, 111, 112, 113, 114, 115, 116, 117, 118, 119, 120, 121, 122]⟩ : ByteArray).extract 0 25)), kVal (.string ⟨#[97, 98, 99, 100, 101, 102, 103, 104, 105, 106, 107, 108, 109, 110, 111, 112, 113, 114, 115, 116, 117, 118, 119, 120, 121, 122]⟩), kVal (.string ((⟨#[97, 98, 99, 100, 101, 102, 103, 104, 105, 106, 107, 108, 109, 110, 111, 112, 113, 114, 115, 116, 117, 118, 119, 120, 121, 122]⟩ : ByteArray).extract 0 24)), fRow B g b 5 9 #[.string ⟨#[]⟩, .string ⟨#[195, 169]⟩, .string ((⟨#[97, 98, 99, 100, 101, 102, 103, 104, 105, 106, 107, 108, 109, 110, 111, 112, 113, 114, 115, 116, 117, 118, 119, 120, 121, 122]⟩ : ByteArray).extract 0 25), .string ((⟨#[97, 98, 99, 100, 101, 102, 103, 104, 105, 106, 107, 108, 109, 110, 111, 112, 113, 114, 115, 116, 117, 118, 119, 120, 121, 122]⟩ : ByteArray).extract 0 24), .string ⟨#[97, 95, 98]⟩], kVal (.pointer (some ⟨B, 0, none⟩)), kSat (fun v => ∃ r : Nat, v = .int .i64 (r : Int) ∧ r < 5), fAt B g b 5 9 #[.string ⟨#[]⟩, .string ⟨#[195, 169]⟩, .string ((⟨#[97, 98, 99, 100, 101, 102, 103, 104, 105, 106, 107, 108, 109, 110, 111, 112, 113, 114, 115, 116, 117, 118, 119, 120, 121, 122]⟩ : ByteArray).extract 0 25), .string ((⟨#[97, 98, 99, 100, 101, 102, 103, 104, 105, 106, 107, 108, 109, 110, 111, 112, 113, 114, 115, 116, 117, 118, 119, 120, 121, 122]⟩ : ByteArray).extract 0 24), .string ⟨#[97, 95, 98]⟩], kSat kStr, kSat (fun v => ∃ r : Nat, r < 2 ∧ v = .pointer (some ⟨b0, r * 2, none⟩)), kSat (fun v => ∃ r : Nat, r < 2 ∧ v = .pointer (some ⟨b0, r * 2 + 1, none⟩)), kAny]
def SpX20 (i : Nat) (w : World) (B : Nat) (ao : Option Addr) (tn cap g gr jj b c n : Nat) (p : Pd) (l : List Atr) (D : Nat → Bool) (_f : Nat → Value) (w' : World) : Prop := (D 9 = false → Sd w w' B ao tn cap g gr (jj) b c n p l) ∧ (D 8 = true → D 9 = false → ∃ q, _f 100 = .slice (some ⟨q, 0, none⟩) 1 1 ∧ w'.heap[q]? = some (.cells #[.string ((⟨#[97, 98, 99, 100, 101, 102, 103, 104, 105, 106, 107, 108, 109, 110, 111, 112, 113, 114, 115, 116, 117, 118, 119, 120, 121, 122]⟩ : ByteArray).extract i (i + 2)), .string ⟨#[118]⟩] 52 (0, 0))) ∧ (D 9 = true → ∃ b4 c4, _f 101 = .slice (some ⟨b4, 0, none⟩) (n + 1) c4 ∧ (D 11 = false → ∃ w3, Sd w w3 B ao tn cap g gr (jj) b c n p l ∧ w3.grownBy w' (some b) ∧ w'.ownsRow (gr + 1) 52 2 (.slice (some ⟨b4, 0, none⟩) (n + 1) c4) (n + 1) (atv (l ++ [(((⟨#[97, 98, 99, 100, 101, 102, 103, 104, 105, 106, 107, 108, 109, 110, 111, 112, 113, 114, 115, 116, 117, 118, 119, 120, 121, 122]⟩ : ByteArray).extract i (i + 2)), ⟨#[118]⟩)]))) ∧ (D 11 = true → ∃ l', Sd w w' B ao tn cap g gr (jj) b4 c4 (n + 1) p l'))
def SpR20 (g b n c i : Nat) : List (Value → Prop) := [pV (.pointer (some ⟨g, 6, none⟩)), pV (.slice (some ⟨b, 0, none⟩) n c), pV (.string ⟨#[97, 98, 99, 100, 101, 102, 103, 104, 105, 106, 107, 108, 109, 110, 111, 112, 113, 114, 115, 116, 117, 118, 119, 120, 121, 122]⟩), pV (.int .i64 (i : Int)), pV (.int .i64 (i : Int)), pV (.int .i64 ((i : Int) + 2)), pV (.string ((⟨#[97, 98, 99, 100, 101, 102, 103, 104, 105, 106, 107, 108, 109, 110, 111, 112, 113, 114, 115, 116, 117, 118, 119, 120, 121, 122]⟩ : ByteArray).extract i (i + 2))), pV (.agg #[.string ((⟨#[97, 98, 99, 100, 101, 102, 103, 104, 105, 106, 107, 108, 109, 110, 111, 112, 113, 114, 115, 116, 117, 118, 119, 120, 121, 122]⟩ : ByteArray).extract i (i + 2)), .string ⟨#[118]⟩]), pT, pT, pV (.pointer (some ⟨g, 6, none⟩)), pT]
set_option maxHeartbeats 32000000 in
set_option maxRecDepth 100000 in
theorem spoiled9_v (B : Nat) (ao : Option Addr) (cap : Nat) (ts : List Int) (j : Nat) (w : World) (hb : Tap w B ao ts.length cap j) (ht : RdZ w ao cap ts) (htB : 0 < (intz ts).length → ∀ b o, ao = some ⟨b, o, none⟩ → b < B) (hj : j ≤ 400) :
    Calls Tryd.prog 6 #[.pointer (some ⟨B, 0, none⟩)] w (SdPost w B ao ts.length cap j) := by
  obtain ⟨i0, hi, hz0, hz1, hz2⟩ := info_parts infoAtr
  have hBl := hb.lt
  obtain ⟨W1, hW1⟩ : ∃ W, W = w.alloc (.cells #[.string ⟨#[]⟩, .string ⟨#[]⟩, .string ⟨#[]⟩, .int .i64 0, .int .i64 0, .int .i64 0, .slice none 0 0] 26) := ⟨_, rfl⟩
  obtain ⟨gr, hgr⟩ : ∃ gr, gr = w.heap.size := ⟨_, rfl⟩
  have t1 : Tap W1 B ao ts.length cap j := by rw [hW1]; exact hb.alloc _
  have z1 : PB W1 gr Pd.zero (.slice none 0 0) := by rw [hW1, hgr]; exact PB.zero w
  have b1 : Below w.heap.size w W1 := by rw [hW1]; exact below_new _ _
  have s1 : W1.heap.size = gr + 1 := by rw [hW1, hgr]; exact World.size_alloc _ _
  have hBgr : B < gr := by omega
  have NX : Hid (∀ (wr : World) (g i m b c n : Nat) (p : Pd) (l : List Atr), Sd w wr B ao ts.length cap g gr i b c n p l → gr < g → i ≤ 900 → 1 ≤ m → m ≤ 1000 → ∀ q : Int, q = m → Calls Tryd.prog 12 #[.pointer (some ⟨B, 0, none⟩), .int .i64 q] wr fun e w' => ∃ r : Nat, e = .returned (.int .i64 (r : Int)) ∧ r < m ∧ Sd w w' B ao ts.length cap g gr (i + 1) b c n p l ∧ wr.grownBy w' (some B)) := fun wr g i m b c n p l st hg hi hm1 hm2 q hq => by
    refine (Next_v B ao cap ts i m wr st.tap (RdV.gb9 ht htB (Nat.le_of_lt hBl) st.gb) (by omega) hm1 (by omega) q hq).mono ?_
    rintro e w' ⟨r, he, hr, hgb, _, htt⟩
    exact ⟨r, he, hr, st.next hgb htt hBgr hg, hgb⟩
  have N1 := Lib.hid (Next_v B ao cap ts j 5 W1 t1 (ht.below b1) (by omega) (by omega) (by omega) 5 rfl)
  have IT : Hid (∀ (k : Nat) (w2 : World), k < 5 → Tap w2 B ao ts.length cap (j + 1) → w.grownBy w2 (some B) → Calls Tryd.prog 20 #[.pointer (some ⟨B, 0, none⟩), .int .i64 (k : Int)] w2 (ItemPost k B ao ts.length cap (j + 1) w2)) := fun k w2 hk tk gk => Item_v k (by omega) k rfl B ao cap ts (j + 1) w2 tk (RdV.gb9 ht htB (Nat.le_of_lt hBl) gk) htB (by omega)
  have Z1 := Lib.hid z1
  have B1 := Lib.hid b1
  have HGR := Lib.hid hgr
  have HS1 := Lib.hid s1
  have hwg : w.heap.size ≤ gr := by omega
  obtain ⟨tn, htn⟩ : ∃ tn, tn = ts.length := ⟨_, rfl⟩
  rw [← htn] at NX IT N1 ⊢
  clear hb ht htB t1 z1 b1 s1 htn
  go_enter Tryd.func6, Tryd.ntmps6
  go_wp2_with fail
  rw [← hW1]
  rw [← hgr]
  clear hW1 hgr
  refine N1.out.mono ?_; rintro e w2 ⟨k0, rfl, hk0, g2, z2, t2⟩
  have G2 : Hid (w.grownBy w2 (some B)) := gb_trans (below_gb B1.out _) g2
  have Z2 : Hid (PB w2 gr Pd.zero (.slice none 0 0)) := Z1.out.grown g2 (fun e => by have := Option.some.inj e; omega)
  have S2 : Hid (w2.heap.size = gr + 1) := by unfold Hid; rw [z2]; exact HS1.out
  have I2 := Lib.hid (IT.out k0 w2 hk0 t2 G2.out)
  clear g2 z2 t2 IT N1
  go_wp2_with fail
  refine I2.out.mono ?_; rintro e w3 ⟨p, b, l, ca, cb, rfl, hitm, hpw, hco, hl, hown, hg3, hT3⟩
  have hl2 : l.length = 2 := by rcases hl with rfl | rfl <;> rfl
  have SZ := Lib.hid (item_sz hitm hpw hco hl)
  obtain ⟨g, hg⟩ : ∃ g, g = w3.heap.size := ⟨_, rfl⟩
  have hgg : gr < g := by have := hg3.size; have := S2.out; omega
  obtain ⟨W3, hW3⟩ : ∃ W, W = w3.alloc (.cells #[.string p.id, .string p.co, .string p.br, .int .i64 p.d, .int .i64 p.c, .int .i64 p.a, .slice (some ⟨b, 0, none⟩) 2 2] 26) := ⟨_, rfl⟩
  obtain ⟨c, hc⟩ : ∃ c, c = 2 := ⟨_, rfl⟩
  obtain ⟨n, hn⟩ : ∃ n, n = 2 := ⟨_, rfl⟩
  obtain ⟨j6, hj6⟩ : ∃ k, k = j + 1 + 5 := ⟨_, rfl⟩
  have st3 : Sd w W3 B ao tn cap g gr j6 b c n p l := by
    have hb3 := below_new w3 (.cells #[.string p.id, .string p.co, .string p.br, .int .i64 p.d, .int .i64 p.c, .int .i64 p.a, .slice (some ⟨b, 0, none⟩) 2 2] 26)
    rw [← hW3] at hb3
    have hlt := (hown.lt b rfl).2
    refine ⟨by rw [hj6]; exact hT3.keep hb3, by rw [hW3, hg, hc, hn]; exact PB.new _ _ _, (Z2.out.grown hg3 (fun e => by have := Option.some.inj e; omega)).below hb3, ?_, by omega, gb_trans (gb_trans G2.out hg3) (below_gb hb3 _), SZ.out⟩
    rw [hc, hn]
    exact own_below (own_mono9 hown (by rw [S2.out]; exact Nat.le_refl _)) hb3
  have HN2 := Lib.hid hn
  have ST3 := Lib.hid st3
  have hjb : j6 ≤ 406 := by omega
  have hjb2 : j6 ≤ j + 6 := by omega
  clear hitm hpw hco hl hown hg3 hT3 hl2 SZ st3 I2 hj6
  go_wp2_with fail
  rw [← hW3]
  clear hW3
  try rw [← hg]
  clear hg
  refine (NX.out W3 g j6 9 b c n p l ST3.out hgg (by omega) (by omega) (by omega) 9 rfl).mono ?_; rintro e W0 ⟨k, rfl, hk, st0, _⟩
  obtain ⟨jj, hjj⟩ : ∃ x, x = j6 + 1 := ⟨_, rfl⟩
  rw [← hjj] at st0
  have ST0 := Lib.hid st0
  have hj7 : jj ≤ 407 := by omega
  have hj8 : jj ≤ j + 7 := by omega
  have hn14 : n ≤ 14 := by omega
  clear st0 hjj ST3 hjb hjb2 hc hn
  by_cases hk0 : k = 0
  · subst hk0
    go_wp2_with fail
    refine (NX.out _ g jj 6 b c n p l (ST0.out.below (below_new _ _)) hgg (by omega) (by omega) (by omega) 6 rfl).mono ?_; rintro e w5 ⟨r5, rfl, hr5, st5, gb5⟩
    obtain ⟨x, hx, hxs⟩ := cell_str (w := w5) (q := W0.heap.size) (r := r5) (m := 6) ((gb5.block _ (by simp) (fun e => by have := Option.some.inj e; have := ST0.out.tap.lt; omega)).trans (heap_alloc_new _ _)) hr5 rfl (by intro v hv; simp only [List.mem_cons, List.not_mem_nil, or_false] at hv; rcases hv with rfl | rfl | rfl | rfl | rfl | rfl <;> first | exact ks_lit | exact ⟨_, rfl, ks_ext _ _ _ (by decide)⟩)
    have hr5I : (r5 : Int) < 6 := by omega
    obtain ⟨f0, f1, f2, f3, f4, f5, f6⟩ := st5.box.fz
    obtain ⟨k0, k1, k2, k3, k4, k5, k6⟩ := st5.box.cells
    have hgs := ST0.out.box.lt
    have hne9 : g ≠ W0.heap.size := by omega
    go_upto_region 22 with fail
    obtain ⟨W8, hW8⟩ : ∃ W, W = w5.setCell ⟨g, 0, none⟩ (.string x) := ⟨_, rfl⟩
    have st8 := st5.put hBgr hgg hwg (gb_set w5 g 0 (.string x)) (st5.box.s0 x) ⟨st5.sz.co, st5.sz.br, st5.sz.at1, hxs, st5.sz.qb⟩
    rw [← hW8] at st8
    rw [← hW8]
    clear hW8
    clear ST0
    have ST8 := Lib.hid st8
    obtain ⟨p0, p1, p2, p3, p4, p5, p6⟩ := st8.box.cells
    obtain ⟨r0, r1, r2, r3, r4, r5, r6⟩ := st8.zer.cells
    obtain ⟨f0, f1, f2, f3, f4, f5, f6⟩ := st8.zer.fz
    obtain ⟨j0, j1, j2, j3, j4, j5, j6⟩ := (set7_heap W8 gr (⟨x, p.co, p.br, p.d, p.c, p.a⟩ : Pd) (.slice (some ⟨b, 0, none⟩) n c) st8.zer).cells
    have HD := Lib.hid (st8.done (i := j) hBgr HGR.out (by omega) (by omega))
    obtain ⟨W9, hW9⟩ : ∃ W, W = set7 W8 gr (⟨x, p.co, p.br, p.d, p.c, p.a⟩ : Pd) (.slice (some ⟨b, 0, none⟩) n c) := ⟨_, rfl⟩
    rw [← hW9] at j0 j1 j2 j3 j4 j5 j6 HD
    clear st8
    try dsimp only at p0 p1 p2 p3 p4 p5 p6 j0 j1 j2 j3 j4 j5 j6 HD
    go_wp2_with fail
    unfold set7 at hW9
    try dsimp only at hW9
    rw [← hW9]
    refine bodyPost_ret (v := .agg #[.string (⟨x, p.co, p.br, p.d, p.c, p.a⟩ : Pd).id, .string (⟨x, p.co, p.br, p.d, p.c, p.a⟩ : Pd).co, .string (⟨x, p.co, p.br, p.d, p.c, p.a⟩ : Pd).br, .int .i64 (⟨x, p.co, p.br, p.d, p.c, p.a⟩ : Pd).d, .int .i64 (⟨x, p.co, p.br, p.d, p.c, p.a⟩ : Pd).c, .int .i64 (⟨x, p.co, p.br, p.d, p.c, p.a⟩ : Pd).a, .slice (some ⟨b, 0, none⟩) n c]) (by simp [results, Tryd.results6, go_sem, j0, j1, j2, j3, j4, j5, j6]) rfl ?_
    exact HD.out
  · skip
    by_cases hk1 : k = 1
    · subst hk1
      go_wp2_with fail
      refine (NX.out _ g jj 4 b c n p l (ST0.out.below (below_new _ _)) hgg (by omega) (by omega) (by omega) 4 rfl).mono ?_; rintro e w5 ⟨r5, rfl, hr5, st5, gb5⟩
      obtain ⟨x, hx, hxs⟩ := cell_str (w := w5) (q := W0.heap.size) (r := r5) (m := 4) ((gb5.block _ (by simp) (fun e => by have := Option.some.inj e; have := ST0.out.tap.lt; omega)).trans (heap_alloc_new _ _)) hr5 rfl (by intro v hv; simp only [List.mem_cons, List.not_mem_nil, or_false] at hv; rcases hv with rfl | rfl | rfl | rfl <;> first | exact ks_lit | exact ⟨_, rfl, ks_ext _ _ _ (by decide)⟩)
      have hr5I : (r5 : Int) < 4 := by omega
      obtain ⟨f0, f1, f2, f3, f4, f5, f6⟩ := st5.box.fz
      obtain ⟨k0, k1, k2, k3, k4, k5, k6⟩ := st5.box.cells
      have hgs := ST0.out.box.lt
      have hne9 : g ≠ W0.heap.size := by omega
      go_upto_region 22 with fail
      obtain ⟨W8, hW8⟩ : ∃ W, W = w5.setCell ⟨g, 1, none⟩ (.string x) := ⟨_, rfl⟩
      have st8 := st5.put hBgr hgg hwg (gb_set w5 g 1 (.string x)) (st5.box.s1 x) ⟨hxs, st5.sz.br, st5.sz.at1, st5.sz.id, st5.sz.qb⟩
      rw [← hW8] at st8
      rw [← hW8]
      clear hW8
      clear ST0
      have ST8 := Lib.hid st8
      obtain ⟨p0, p1, p2, p3, p4, p5, p6⟩ := st8.box.cells
      obtain ⟨r0, r1, r2, r3, r4, r5, r6⟩ := st8.zer.cells
      obtain ⟨f0, f1, f2, f3, f4, f5, f6⟩ := st8.zer.fz
      obtain ⟨j0, j1, j2, j3, j4, j5, j6⟩ := (set7_heap W8 gr (⟨p.id, x, p.br, p.d, p.c, p.a⟩ : Pd) (.slice (some ⟨b, 0, none⟩) n c) st8.zer).cells
      have HD := Lib.hid (st8.done (i := j) hBgr HGR.out (by omega) (by omega))
      obtain ⟨W9, hW9⟩ : ∃ W, W = set7 W8 gr (⟨p.id, x, p.br, p.d, p.c, p.a⟩ : Pd) (.slice (some ⟨b, 0, none⟩) n c) := ⟨_, rfl⟩
      rw [← hW9] at j0 j1 j2 j3 j4 j5 j6 HD
      clear st8
      try dsimp only at p0 p1 p2 p3 p4 p5 p6 j0 j1 j2 j3 j4 j5 j6 HD
      go_wp2_with fail
      unfold set7 at hW9
      try dsimp only at hW9
      rw [← hW9]
      refine bodyPost_ret (v := .agg #[.string (⟨p.id, x, p.br, p.d, p.c, p.a⟩ : Pd).id, .string (⟨p.id, x, p.br, p.d, p.c, p.a⟩ : Pd).co, .string (⟨p.id, x, p.br, p.d, p.c, p.a⟩ : Pd).br, .int .i64 (⟨p.id, x, p.br, p.d, p.c, p.a⟩ : Pd).d, .int .i64 (⟨p.id, x, p.br, p.d, p.c, p.a⟩ : Pd).c, .int .i64 (⟨p.id, x, p.br, p.d, p.c, p.a⟩ : Pd).a, .slice (some ⟨b, 0, none⟩) n c]) (by simp [results, Tryd.results6, go_sem, j0, j1, j2, j3, j4, j5, j6]) rfl ?_
      exact HD.out
    · skip
      by_cases hk2 : k = 2
      · subst hk2
        go_upto_region 9 with fail
        refine wp_region_any (by kernel_rfl) ?_
        refine region_ssa [30, 31, 32, 33, 34, 35, 36, 37, 38, 39] (Fx B g b W0) (Fx B g b) (RLs (SpR9 B g b b n c)) (SpX9 w B ao tn cap g gr jj b c n p l) (fun f => rfl) (by kernel_rfl) (by kernel_rfl) ?_ ?_ ?_ ?_ (AllF.below (n := 11) ?_) ?_
        · exact (Fx.refl _ _ _ _).drew
        · intro f; exact ⟨fun _ => ST0.out.drew, fun h => (by cases h)⟩
        · intro i v w1 w2 _ h hE; exact RLs.stF (StL.all (l := SpR9 B g b b n c) ⟨StF.val _, StF.val _, StF.val _, StF.val _, StF.row _, StF.val _, StF.sat _, StF.at _, StF.sat _, StF.val _, StF.any, trivial⟩) i v w1 w2 h hE
        · intro w1 w2 hB hE; exact hB.trans hE
        · refine AllF.step (m := 10) (j := 1) rfl ?_ ?_
          · intro D f w1 hD hB hR hp hcl hX
            have HX := Lib.hid hX
            have HC := Lib.hid hcl
            have HB := Lib.hid hB
            have HD := Lib.hid hD
            clear hX hcl hB hD hR hp
            refine wpOp_step rfl (fun K hK => ?_)
            simp only [putAll, Act.put, List.setIfInBounds_toArray, List.set_cons_succ, List.set_cons_zero]
            go_simp
            exact hK _ _ ⟨.string ⟨#[97, 98, 99, 100, 101, 102, 103, 104, 105, 106, 107, 108, 109, 110, 111, 112, 113, 114, 115, 116, 117, 118, 119, 120, 121, 122]⟩, (by show _ = Act.put _ (some 30) _; simp only [putAll, Act.put, List.setIfInBounds_toArray, List.set_cons_succ, List.set_cons_zero, *]; all_goals rfl), rfl, Fx.refl _ _ _ _, HX.out⟩
          refine AllF.step (m := 9) (j := 2) rfl ?_ ?_
          · intro D f w1 hD hB hR hp hcl hX
            have e0 : f 30 = .string ⟨#[97, 98, 99, 100, 101, 102, 103, 104, 105, 106, 107, 108, 109, 110, 111, 112, 113, 114, 115, 116, 117, 118, 119, 120, 121, 122]⟩ := (hpAt hp 0 (by kernel_rfl)).2
            have HX := Lib.hid hX
            have HC := Lib.hid hcl
            have HB := Lib.hid hB
            have HD := Lib.hid hD
            clear hX hcl hB hD hR hp
            refine wpOp_step rfl (fun K hK => ?_)
            simp only [putAll, Act.put, List.setIfInBounds_toArray, List.set_cons_succ, List.set_cons_zero]
            go_simp
            exact hK _ _ ⟨.string ((⟨#[97, 98, 99, 100, 101, 102, 103, 104, 105, 106, 107, 108, 109, 110, 111, 112, 113, 114, 115, 116, 117, 118, 119, 120, 121, 122]⟩ : ByteArray).extract 0 24), (by show _ = Act.put _ (some 31) _; simp only [putAll, Act.put, List.setIfInBounds_toArray, List.set_cons_succ, List.set_cons_zero, *]; all_goals rfl), rfl, Fx.refl _ _ _ _, HX.out⟩
          refine AllF.step (m := 8) (j := 3) rfl ?_ ?_
          · intro D f w1 hD hB hR hp hcl hX
            have HX := Lib.hid hX
            have HC := Lib.hid hcl
            have HB := Lib.hid hB
            have HD := Lib.hid hD
            clear hX hcl hB hD hR hp
            refine wpOp_step rfl (fun K hK => ?_)
            simp only [putAll, Act.put, List.setIfInBounds_toArray, List.set_cons_succ, List.set_cons_zero]
            go_simp
            exact hK _ _ ⟨.string ⟨#[97, 98, 99, 100, 101, 102, 103, 104, 105, 106, 107, 108, 109, 110, 111, 112, 113, 114, 115, 116, 117, 118, 119, 120, 121, 122]⟩, (by show _ = Act.put _ (some 32) _; simp only [putAll, Act.put, List.setIfInBounds_toArray, List.set_cons_succ, List.set_cons_zero, *]; all_goals rfl), rfl, Fx.refl _ _ _ _, HX.out⟩
          refine AllF.step (m := 7) (j := 4) rfl ?_ ?_
          · intro D f w1 hD hB hR hp hcl hX
            have e2 : f 32 = .string ⟨#[97, 98, 99, 100, 101, 102, 103, 104, 105, 106, 107, 108, 109, 110, 111, 112, 113, 114, 115, 116, 117, 118, 119, 120, 121, 122]⟩ := (hpAt hp 2 (by kernel_rfl)).2
            have HX := Lib.hid hX
            have HC := Lib.hid hcl
            have HB := Lib.hid hB
            have HD := Lib.hid hD
            clear hX hcl hB hD hR hp
            refine wpOp_step rfl (fun K hK => ?_)
            simp only [putAll, Act.put, List.setIfInBounds_toArray, List.set_cons_succ, List.set_cons_zero]
            go_simp
            exact hK _ _ ⟨.string ((⟨#[97, 98, 99, 100, 101, 102, 103, 104, 105, 106, 107, 108, 109, 110, 111, 112, 113, 114, 115, 116, 117, 118, 119, 120, 121, 122]⟩ : ByteArray).extract 0 25), (by show _ = Act.put _ (some 33) _; simp only [putAll, Act.put, List.setIfInBounds_toArray, List.set_cons_succ, List.set_cons_zero, *]; all_goals rfl), rfl, Fx.refl _ _ _ _, HX.out⟩
          refine AllF.step (m := 6) (j := 5) rfl ?_ ?_
          · intro D f w1 hD hB hR hp hcl hX
            have e1 : f 31 = .string ((⟨#[97, 98, 99, 100, 101, 102, 103, 104, 105, 106, 107, 108, 109, 110, 111, 112, 113, 114, 115, 116, 117, 118, 119, 120, 121, 122]⟩ : ByteArray).extract 0 24) := (hpAt hp 1 (by kernel_rfl)).2
            have e3 : f 33 = .string ((⟨#[97, 98, 99, 100, 101, 102, 103, 104, 105, 106, 107, 108, 109, 110, 111, 112, 113, 114, 115, 116, 117, 118, 119, 120, 121, 122]⟩ : ByteArray).extract 0 25) := (hpAt hp 3 (by kernel_rfl)).2
            have hl : D 10 = false := noF (hcl 10) (by kernel_rfl) hD
            have S := hX.1 hl
            have z1 := S.tap.lt
            have z2 := S.box.lt
            have z3 := (S.own.lt b rfl).2
            clear S
            have HX := Lib.hid hX
            have HC := Lib.hid hcl
            have HB := Lib.hid hB
            have HD := Lib.hid hD
            clear hX hcl hB hD hR hp
            refine wpOp_step rfl (fun K hK => ?_)
            simp only [putAll, Act.put, List.setIfInBounds_toArray, List.set_cons_succ, List.set_cons_zero]
            go_simp
            exact hK _ _ ⟨.slice (some ⟨w1.heap.size, 0, none⟩) 8 8, (by show _ = Act.put _ (some 34) _; simp only [putAll, Act.put, List.setIfInBounds_toArray, List.set_cons_succ, List.set_cons_zero, *]; all_goals rfl), ⟨w1.heap.size, rfl, ⟨by omega, by omega, by omega⟩, heap_alloc_new _ _⟩, Fx.alloc _ _, ⟨fun h => (HX.out.1 h).below (below_new _ _), fun h => absurd h (noOf (D := D) (HC.out 10) (by kernel_rfl) HD.out)⟩⟩
          refine AllF.step (m := 5) (j := 6) rfl ?_ ?_
          · intro D f w1 hD hB hR hp hcl hX
            have HX := Lib.hid hX
            have HC := Lib.hid hcl
            have HB := Lib.hid hB
            have HD := Lib.hid hD
            clear hX hcl hB hD hR hp
            refine wpOp_step rfl (fun K hK => ?_)
            simp only [putAll, Act.put, List.setIfInBounds_toArray, List.set_cons_succ, List.set_cons_zero]
            go_simp
            exact hK _ _ ⟨.pointer (some ⟨B, 0, none⟩), (by show _ = Act.put _ (some 35) _; simp only [putAll, Act.put, List.setIfInBounds_toArray, List.set_cons_succ, List.set_cons_zero, *]; all_goals rfl), rfl, Fx.refl _ _ _ _, HX.out⟩
          refine AllF.step (m := 4) (j := 7) rfl ?_ ?_
          · intro D f w1 hD hB hR hp hcl hX
            have e5 : f 35 = .pointer (some ⟨B, 0, none⟩) := (hpAt hp 5 (by kernel_rfl)).2
            have hl : D 10 = false := noF (hcl 10) (by kernel_rfl) hD
            have S : Sd w w1 B ao tn cap g gr (jj) b c n p l := by have h := hX.1 hl; rw [hD] at h; exact h
            have HX := Lib.hid hX
            have HC := Lib.hid hcl
            have HB := Lib.hid hB
            have HD := Lib.hid hD
            clear hX hcl hB hD hR hp
            refine wpOp_step rfl (fun K hK => ?_)
            simp only [putAll, Act.put, List.setIfInBounds_toArray, List.set_cons_succ, List.set_cons_zero]
            go_simp
            refine (NX.out w1 g (jj + 0) 8 b c n p l S hgg (by omega) (by omega) (by omega) 8 rfl).mono ?_; rintro e w2 ⟨r, rfl, hr, S2, g2⟩
            go_simp
            have S3 : Sd w w2 B ao tn cap g gr (jj + (bif upd D 6 6 then 1 else 0)) b c n p l := (by have e4 : upd D 6 6 = true := rfl; rw [e4]; exact S2)
            exact hK _ _ ⟨.int .i64 (r : Int), (by show _ = Act.put _ (some 36) _; simp only [putAll, Act.put, List.setIfInBounds_toArray, List.set_cons_succ, List.set_cons_zero, *]; all_goals rfl), ⟨r, rfl, hr⟩, Fx.of g2 (.inl rfl), ⟨fun _ => S3, fun h => absurd h (noOf (D := D) (HC.out 10) (by kernel_rfl) HD.out)⟩⟩
          refine AllF.step (m := 3) (j := 8) rfl ?_ ?_
          · intro D f w1 hD hB hR hp hcl hX
            obtain ⟨q, e4, hq, hrow⟩ := (hpAt hp 4 (by kernel_rfl)).2
            replace e4 : f 34 = _ := e4
            obtain ⟨r, e6, hr⟩ := (hpAt hp 6 (by kernel_rfl)).2
            replace e6 : f 36 = _ := e6
            have hrI : (r : Int) < 8 := by omega
            have HX := Lib.hid hX
            have HC := Lib.hid hcl
            have HB := Lib.hid hB
            have HD := Lib.hid hD
            clear hX hcl hB hD hR hp
            refine wpOp_step rfl (fun K hK => ?_)
            simp only [putAll, Act.put, List.setIfInBounds_toArray, List.set_cons_succ, List.set_cons_zero]
            go_simp
            exact hK _ _ ⟨.pointer (some ⟨q, r, none⟩), (by show _ = Act.put _ (some 37) _; simp only [putAll, Act.put, List.setIfInBounds_toArray, List.set_cons_succ, List.set_cons_zero, *]; all_goals rfl), ⟨q, r, rfl, hr, hq, hrow⟩, Fx.refl _ _ _ _, HX.out⟩
          refine AllF.step (m := 2) (j := 9) rfl ?_ ?_
          · intro D f w1 hD hB hR hp hcl hX
            obtain ⟨q, r, e7, hr, hq, hrow⟩ := (hpAt hp 7 (by kernel_rfl)).2
            replace e7 : f 37 = _ := e7
            obtain ⟨x, hx, hxs⟩ := cell_str hrow hr rfl (by intro v hv; simp only [List.mem_cons, List.not_mem_nil, or_false] at hv; rcases hv with rfl | rfl | rfl | rfl | rfl | rfl | rfl | rfl <;> first | exact ks_lit | exact ⟨_, rfl, ks_ext _ _ _ (by decide)⟩)
            have HX := Lib.hid hX
            have HC := Lib.hid hcl
            have HB := Lib.hid hB
            have HD := Lib.hid hD
            clear hX hcl hB hD hR hp
            refine wpOp_step rfl (fun K hK => ?_)
            simp only [putAll, Act.put, List.setIfInBounds_toArray, List.set_cons_succ, List.set_cons_zero]
            go_simp
            exact hK _ _ ⟨.string x, (by show _ = Act.put _ (some 38) _; simp only [putAll, Act.put, List.setIfInBounds_toArray, List.set_cons_succ, List.set_cons_zero, *]; all_goals rfl), ⟨x, rfl, hxs⟩, Fx.refl _ _ _ _, HX.out⟩
          refine AllF.step (m := 1) (j := 10) rfl ?_ ?_
          · intro D f w1 hD hB hR hp hcl hX
            have HX := Lib.hid hX
            have HC := Lib.hid hcl
            have HB := Lib.hid hB
            have HD := Lib.hid hD
            clear hX hcl hB hD hR hp
            refine wpOp_step rfl (fun K hK => ?_)
            simp only [putAll, Act.put, List.setIfInBounds_toArray, List.set_cons_succ, List.set_cons_zero]
            go_simp
            exact hK _ _ ⟨.pointer (some ⟨g, 2, none⟩), (by show _ = Act.put _ (some 39) _; simp only [putAll, Act.put, List.setIfInBounds_toArray, List.set_cons_succ, List.set_cons_zero, *]; all_goals rfl), rfl, Fx.refl _ _ _ _, HX.out⟩
          refine AllF.step (m := 0) (j := 11) rfl ?_ ?_
          · intro D f w1 hD hB hR hp hcl hX
            have e9 : f 39 = .pointer (some ⟨g, 2, none⟩) := (hpAt hp 9 (by kernel_rfl)).2
            have d6 : D 6 = true := (hpAt hp 6 (by kernel_rfl)).1
            obtain ⟨x, e8, hxs⟩ := (hpAt hp 8 (by kernel_rfl)).2
            replace e8 : f 38 = _ := e8
            have S : Sd w w1 B ao tn cap g gr (jj + 1) b c n p l := by have h := hX.1 hD; rw [d6] at h; exact h
            obtain ⟨f0, f1, f2, f3, f4, f5, f6⟩ := S.box.fz
            obtain ⟨k0, k1, k2, k3, k4, k5, k6⟩ := S.box.cells
            have S2 := S.put hBgr hgg hwg (gb_set w1 g 2 (.string x)) (S.box.s2 x) ⟨S.sz.co, hxs, S.sz.at1, S.sz.id, S.sz.qb⟩
            clear S
            have HX := Lib.hid hX
            have HC := Lib.hid hcl
            have HB := Lib.hid hB
            have HD := Lib.hid hD
            clear hX hcl hB hD hR hp
            refine wpOp_step rfl (fun K hK => ?_)
            simp only [putAll, Act.put, List.setIfInBounds_toArray, List.set_cons_succ, List.set_cons_zero]
            go_simp
            exact hK _ _ ⟨undef, (by show _ = Act.put _ (none) _; simp only [putAll, Act.put, List.setIfInBounds_toArray, List.set_cons_succ, List.set_cons_zero, *]; all_goals rfl), trivial, Fx.of (gb_set w1 g 2 _) (.inr (.inl rfl)), ⟨fun h => absurd (show true = false from h) (by decide), fun _ => ⟨_, S2⟩⟩⟩
          exact trivial
        · intro D f w1 hD hB hR hX
          obtain ⟨p', st8⟩ := hX.2 (hD 10 (by decide))
          clear hD hB hR hX
          simp only [putAll, Act.put, List.setIfInBounds_toArray, List.set_cons_succ, List.set_cons_zero]
          go_upto_region 22 with fail
          obtain ⟨W8, hW8⟩ : ∃ W, W = w1 := ⟨_, rfl⟩
          rw [← hW8] at st8
          rw [← hW8]
          clear hW8
          clear ST0
          have ST8 := Lib.hid st8
          obtain ⟨p0, p1, p2, p3, p4, p5, p6⟩ := st8.box.cells
          obtain ⟨r0, r1, r2, r3, r4, r5, r6⟩ := st8.zer.cells
          obtain ⟨f0, f1, f2, f3, f4, f5, f6⟩ := st8.zer.fz
          obtain ⟨j0, j1, j2, j3, j4, j5, j6⟩ := (set7_heap W8 gr (p' : Pd) (.slice (some ⟨b, 0, none⟩) n c) st8.zer).cells
          have HD := Lib.hid (st8.done (i := j) hBgr HGR.out (by omega) (by omega))
          obtain ⟨W9, hW9⟩ : ∃ W, W = set7 W8 gr (p' : Pd) (.slice (some ⟨b, 0, none⟩) n c) := ⟨_, rfl⟩
          rw [← hW9] at j0 j1 j2 j3 j4 j5 j6 HD
          clear st8
          try dsimp only at p0 p1 p2 p3 p4 p5 p6 j0 j1 j2 j3 j4 j5 j6 HD
          go_wp2_with fail
          unfold set7 at hW9
          try dsimp only at hW9
          rw [← hW9]
          refine bodyPost_ret (v := .agg #[.string (p' : Pd).id, .string (p' : Pd).co, .string (p' : Pd).br, .int .i64 (p' : Pd).d, .int .i64 (p' : Pd).c, .int .i64 (p' : Pd).a, .slice (some ⟨b, 0, none⟩) n c]) (by simp [results, Tryd.results6, go_sem, j0, j1, j2, j3, j4, j5, j6]) rfl ?_
          exact HD.out
      · skip
        by_cases hk3 : k = 3
        · subst hk3
          go_wp2_with fail
          refine (NX.out _ g jj 4 b c n p l (ST0.out.below (below_new _ _)) hgg (by omega) (by omega) (by omega) 4 rfl).mono ?_; rintro e w5 ⟨r5, rfl, hr5, st5, gb5⟩
          have hrow := (gb5.block _ (by simp) (fun e => by have := Option.some.inj e; have := ST0.out.tap.lt; omega)).trans (heap_alloc_new W0 _)
          obtain ⟨x, y, z, hx, hy, hz, hqxyz⟩ : ∃ x y z : Int, w5.cell? ⟨W0.heap.size, r5 * 3, none⟩ = some (.int .i64 x) ∧ w5.cell? ⟨W0.heap.size, r5 * 3 + 1, none⟩ = some (.int .i64 y) ∧ w5.cell? ⟨W0.heap.size, r5 * 3 + 2, none⟩ = some (.int .i64 z) ∧ QB x y z := by
            have : r5 = 0 ∨ r5 = 1 ∨ r5 = 2 ∨ r5 = 3 := by omega
            rcases this with rfl | rfl | rfl | rfl <;> exact ⟨_, _, _, cell_in hrow rfl, cell_in hrow rfl, cell_in hrow rfl, ⟨by decide, by decide, by decide, by decide, by decide, by decide⟩⟩
          clear hrow
          have hr5I : (r5 : Int) < 4 := by omega
          obtain ⟨f0, f1, f2, f3, f4, f5, f6⟩ := st5.box.fz
          obtain ⟨k0, k1, k2, k3, k4, k5, k6⟩ := st5.box.cells
          have hgs := ST0.out.box.lt
          have hne9 : g ≠ W0.heap.size := by omega
          go_upto_region 22 with fail
          obtain ⟨W8, hW8⟩ : ∃ W, W = ((w5.setCell ⟨g, 3, none⟩ (.int .i64 x)).setCell ⟨g, 4, none⟩ (.int .i64 y)).setCell ⟨g, 5, none⟩ (.int .i64 z) := ⟨_, rfl⟩
          have st8 := st5.put hBgr hgg hwg (gb_trans (gb_trans (gb_set w5 g 3 (.int .i64 x)) (gb_set _ g 4 (.int .i64 y))) (gb_set _ g 5 (.int .i64 z))) (st5.box.s345 x y z) ⟨st5.sz.co, st5.sz.br, st5.sz.at1, st5.sz.id, hqxyz⟩
          rw [← hW8] at st8
          rw [← hW8]
          clear hW8
          clear ST0
          have ST8 := Lib.hid st8
          obtain ⟨p0, p1, p2, p3, p4, p5, p6⟩ := st8.box.cells
          obtain ⟨r0, r1, r2, r3, r4, r5, r6⟩ := st8.zer.cells
          obtain ⟨f0, f1, f2, f3, f4, f5, f6⟩ := st8.zer.fz
          obtain ⟨j0, j1, j2, j3, j4, j5, j6⟩ := (set7_heap W8 gr (⟨p.id, p.co, p.br, x, y, z⟩ : Pd) (.slice (some ⟨b, 0, none⟩) n c) st8.zer).cells
          have HD := Lib.hid (st8.done (i := j) hBgr HGR.out (by omega) (by omega))
          obtain ⟨W9, hW9⟩ : ∃ W, W = set7 W8 gr (⟨p.id, p.co, p.br, x, y, z⟩ : Pd) (.slice (some ⟨b, 0, none⟩) n c) := ⟨_, rfl⟩
          rw [← hW9] at j0 j1 j2 j3 j4 j5 j6 HD
          clear st8
          try dsimp only at p0 p1 p2 p3 p4 p5 p6 j0 j1 j2 j3 j4 j5 j6 HD
          go_wp2_with fail
          unfold set7 at hW9
          try dsimp only at hW9
          rw [← hW9]
          refine bodyPost_ret (v := .agg #[.string (⟨p.id, p.co, p.br, x, y, z⟩ : Pd).id, .string (⟨p.id, p.co, p.br, x, y, z⟩ : Pd).co, .string (⟨p.id, p.co, p.br, x, y, z⟩ : Pd).br, .int .i64 (⟨p.id, p.co, p.br, x, y, z⟩ : Pd).d, .int .i64 (⟨p.id, p.co, p.br, x, y, z⟩ : Pd).c, .int .i64 (⟨p.id, p.co, p.br, x, y, z⟩ : Pd).a, .slice (some ⟨b, 0, none⟩) n c]) (by simp [results, Tryd.results6, go_sem, j0, j1, j2, j3, j4, j5, j6]) rfl ?_
          exact HD.out
        · skip
          by_cases hk4 : k = 4
          · subst hk4
            go_upto_region 13 with fail
            refine wp_region_any (by kernel_rfl) ?_
            refine region_ssa [54, 55, 56, 57, 58, 59, 60, 61, 62, 63, 64, 65, 66] (Fx B g b W0) (Fx B g b) (RLs (SpR13 B g b b n c)) (SpX13 w B ao tn cap g gr jj b c n p l) (fun f => rfl) (by kernel_rfl) (by kernel_rfl) ?_ ?_ ?_ ?_ (AllF.below (n := 14) ?_) ?_
            · exact (Fx.refl _ _ _ _).drew
            · intro f; exact ⟨fun _ => ST0.out.drew, fun h => (by cases h)⟩
            · intro i v w1 w2 _ h hE; exact RLs.stF (StL.all (l := SpR13 B g b b n c) ⟨StF.val _, StF.val _, StF.val _, StF.sat _, StF.val _, StF.val _, StF.row _, StF.val _, StF.sat _, StF.at _, StF.sat _, StF.sat _, StF.sat _, StF.any, trivial⟩) i v w1 w2 h hE
            · intro w1 w2 hB hE; exact hB.trans hE
            · refine AllF.step (m := 13) (j := 1) rfl ?_ ?_
              · intro D f w1 hD hB hR hp hcl hX
                have HX := Lib.hid hX
                have HC := Lib.hid hcl
                have HB := Lib.hid hB
                have HD := Lib.hid hD
                clear hX hcl hB hD hR hp
                refine wpOp_step rfl (fun K hK => ?_)
                simp only [putAll, Act.put, List.setIfInBounds_toArray, List.set_cons_succ, List.set_cons_zero]
                go_simp
                exact hK _ _ ⟨.pointer (some ⟨g, 6, none⟩), (by show _ = Act.put _ (some 54) _; simp only [putAll, Act.put, List.setIfInBounds_toArray, List.set_cons_succ, List.set_cons_zero, *]; all_goals rfl), rfl, Fx.refl _ _ _ _, HX.out⟩
              refine AllF.step (m := 12) (j := 2) rfl ?_ ?_
              · intro D f w1 hD hB hR hp hcl hX
                have e0 : f 54 = .pointer (some ⟨g, 6, none⟩) := (hpAt hp 0 (by kernel_rfl)).2
                have k6 : w1.cell? ⟨g, 6, none⟩ = some (.slice (some ⟨b, 0, none⟩) n c) := by
                  have hl : D 13 = false := by
                    cases hd : D 13 with
                    | false => rfl
                    | true => exact absurd (hcl 13 hd 1 (by decide)) (by rw [hD]; decide)
                  exact (hX.1 hl).box.cells.2.2.2.2.2.2
                have HX := Lib.hid hX
                have HC := Lib.hid hcl
                have HB := Lib.hid hB
                have HD := Lib.hid hD
                clear hX hcl hB hD hR hp
                refine wpOp_step rfl (fun K hK => ?_)
                simp only [putAll, Act.put, List.setIfInBounds_toArray, List.set_cons_succ, List.set_cons_zero]
                go_simp
                exact hK _ _ ⟨.slice (some ⟨b, 0, none⟩) n c, (by show _ = Act.put _ (some 55) _; simp only [putAll, Act.put, List.setIfInBounds_toArray, List.set_cons_succ, List.set_cons_zero, *]; all_goals rfl), rfl, Fx.refl _ _ _ _, HX.out⟩
              refine AllF.step (m := 11) (j := 3) rfl ?_ ?_
              · intro D f w1 hD hB hR hp hcl hX
                have HX := Lib.hid hX
                have HC := Lib.hid hcl
                have HB := Lib.hid hB
                have HD := Lib.hid hD
                clear hX hcl hB hD hR hp
                refine wpOp_step rfl (fun K hK => ?_)
                simp only [putAll, Act.put, List.setIfInBounds_toArray, List.set_cons_succ, List.set_cons_zero]
                go_simp
                exact hK _ _ ⟨.pointer (some ⟨B, 0, none⟩), (by show _ = Act.put _ (some 56) _; simp only [putAll, Act.put, List.setIfInBounds_toArray, List.set_cons_succ, List.set_cons_zero, *]; all_goals rfl), rfl, Fx.refl _ _ _ _, HX.out⟩
              refine AllF.step (m := 10) (j := 4) rfl ?_ ?_
              · intro D f w1 hD hB hR hp hcl hX
                have e2 : f 56 = .pointer (some ⟨B, 0, none⟩) := (hpAt hp 2 (by kernel_rfl)).2
                have hl : D 13 = false := noF (hcl 13) (by kernel_rfl) hD
                have h2 : D 8 = false := noF (hcl 8) (by kernel_rfl) hD
                have S : Sd w w1 B ao tn cap g gr (jj) b c n p l := by have h := hX.1 hl; rw [h2, hD] at h; exact h
                have HX := Lib.hid hX
                have HC := Lib.hid hcl
                have HB := Lib.hid hB
                have HD := Lib.hid hD
                clear hX hcl hB hD hR hp
                refine wpOp_step rfl (fun K hK => ?_)
                simp only [putAll, Act.put, List.setIfInBounds_toArray, List.set_cons_succ, List.set_cons_zero]
                go_simp
                refine (NX.out w1 g (jj + 0) 2 b c n p l S hgg (by omega) (by omega) (by omega) 2 rfl).mono ?_; rintro e w2 ⟨r, rfl, hr, S2, g2⟩
                go_simp
                have S3 : Sd w w2 B ao tn cap g gr (jj + (bif upd D 3 8 then 2 else (bif upd D 3 3 then 1 else 0))) b c n p l := (by have e4 : upd D 3 3 = true := rfl; have e2 : upd D 3 8 = false := h2; rw [e2, e4]; exact S2)
                exact hK _ _ ⟨.int .i64 (r : Int), (by show _ = Act.put _ (some 57) _; simp only [putAll, Act.put, List.setIfInBounds_toArray, List.set_cons_succ, List.set_cons_zero, *]; all_goals rfl), ⟨r, rfl, hr⟩, Fx.of g2 (.inl rfl), ⟨fun _ => S3, fun h => absurd h (noOf (D := D) (HC.out 13) (by kernel_rfl) HD.out)⟩⟩
              refine AllF.step (m := 9) (j := 5) rfl ?_ ?_
              · intro D f w1 hD hB hR hp hcl hX
                have HX := Lib.hid hX
                have HC := Lib.hid hcl
                have HB := Lib.hid hB
                have HD := Lib.hid hD
                clear hX hcl hB hD hR hp
                refine wpOp_step rfl (fun K hK => ?_)
                simp only [putAll, Act.put, List.setIfInBounds_toArray, List.set_cons_succ, List.set_cons_zero]
                go_simp
                exact hK _ _ ⟨.string ⟨#[97, 98, 99, 100, 101, 102, 103, 104, 105, 106, 107, 108, 109, 110, 111, 112, 113, 114, 115, 116, 117, 118, 119, 120, 121, 122]⟩, (by show _ = Act.put _ (some 58) _; simp only [putAll, Act.put, List.setIfInBounds_toArray, List.set_cons_succ, List.set_cons_zero, *]; all_goals rfl), rfl, Fx.refl _ _ _ _, HX.out⟩
              refine AllF.step (m := 8) (j := 6) rfl ?_ ?_
              · intro D f w1 hD hB hR hp hcl hX
                have e4 : f 58 = .string ⟨#[97, 98, 99, 100, 101, 102, 103, 104, 105, 106, 107, 108, 109, 110, 111, 112, 113, 114, 115, 116, 117, 118, 119, 120, 121, 122]⟩ := (hpAt hp 4 (by kernel_rfl)).2
                have HX := Lib.hid hX
                have HC := Lib.hid hcl
                have HB := Lib.hid hB
                have HD := Lib.hid hD
                clear hX hcl hB hD hR hp
                refine wpOp_step rfl (fun K hK => ?_)
                simp only [putAll, Act.put, List.setIfInBounds_toArray, List.set_cons_succ, List.set_cons_zero]
                go_simp
                exact hK _ _ ⟨.string ((⟨#[97, 98, 99, 100, 101, 102, 103, 104, 105, 106, 107, 108, 109, 110, 111, 112, 113, 114, 115, 116, 117, 118, 119, 120, 121, 122]⟩ : ByteArray).extract 0 25), (by show _ = Act.put _ (some 59) _; simp only [putAll, Act.put, List.setIfInBounds_toArray, List.set_cons_succ, List.set_cons_zero, *]; all_goals rfl), rfl, Fx.refl _ _ _ _, HX.out⟩
              refine AllF.step (m := 7) (j := 7) rfl ?_ ?_
              · intro D f w1 hD hB hR hp hcl hX
                have e5 : f 59 = .string ((⟨#[97, 98, 99, 100, 101, 102, 103, 104, 105, 106, 107, 108, 109, 110, 111, 112, 113, 114, 115, 116, 117, 118, 119, 120, 121, 122]⟩ : ByteArray).extract 0 25) := (hpAt hp 5 (by kernel_rfl)).2
                have hl : D 13 = false := noF (hcl 13) (by kernel_rfl) hD
                have S := hX.1 hl
                have z1 := S.tap.lt
                have z2 := S.box.lt
                have z3 := (S.own.lt b rfl).2
                clear S
                have HX := Lib.hid hX
                have HC := Lib.hid hcl
                have HB := Lib.hid hB
                have HD := Lib.hid hD
                clear hX hcl hB hD hR hp
                refine wpOp_step rfl (fun K hK => ?_)
                simp only [putAll, Act.put, List.setIfInBounds_toArray, List.set_cons_succ, List.set_cons_zero]
                go_simp
                exact hK _ _ ⟨.slice (some ⟨w1.heap.size, 0, none⟩) 5 5, (by show _ = Act.put _ (some 60) _; simp only [putAll, Act.put, List.setIfInBounds_toArray, List.set_cons_succ, List.set_cons_zero, *]; all_goals rfl), ⟨w1.heap.size, rfl, ⟨by omega, by omega, by omega⟩, heap_alloc_new _ _⟩, Fx.alloc _ _, ⟨fun h => (HX.out.1 h).below (below_new _ _), fun h => absurd h (noOf (D := D) (HC.out 13) (by kernel_rfl) HD.out)⟩⟩
              refine AllF.step (m := 6) (j := 8) rfl ?_ ?_
              · intro D f w1 hD hB hR hp hcl hX
                have HX := Lib.hid hX
                have HC := Lib.hid hcl
                have HB := Lib.hid hB
                have HD := Lib.hid hD
                clear hX hcl hB hD hR hp
                refine wpOp_step rfl (fun K hK => ?_)
                simp only [putAll, Act.put, List.setIfInBounds_toArray, List.set_cons_succ, List.set_cons_zero]
                go_simp
                exact hK _ _ ⟨.pointer (some ⟨B, 0, none⟩), (by show _ = Act.put _ (some 61) _; simp only [putAll, Act.put, List.setIfInBounds_toArray, List.set_cons_succ, List.set_cons_zero, *]; all_goals rfl), rfl, Fx.refl _ _ _ _, HX.out⟩
              refine AllF.step (m := 5) (j := 9) rfl ?_ ?_
              · intro D f w1 hD hB hR hp hcl hX
                have e7 : f 61 = .pointer (some ⟨B, 0, none⟩) := (hpAt hp 7 (by kernel_rfl)).2
                have hl : D 13 = false := noF (hcl 13) (by kernel_rfl) hD
                have d3 : D 3 = true := (hpAt hp 3 (by kernel_rfl)).1
                have S : Sd w w1 B ao tn cap g gr (jj + 1) b c n p l := by have h := hX.1 hl; rw [hD, d3] at h; exact h
                have HX := Lib.hid hX
                have HC := Lib.hid hcl
                have HB := Lib.hid hB
                have HD := Lib.hid hD
                clear hX hcl hB hD hR hp
                refine wpOp_step rfl (fun K hK => ?_)
                simp only [putAll, Act.put, List.setIfInBounds_toArray, List.set_cons_succ, List.set_cons_zero]
                go_simp
                refine (NX.out w1 g (jj + 1) 5 b c n p l S hgg (by omega) (by omega) (by omega) 5 rfl).mono ?_; rintro e w2 ⟨r, rfl, hr, S2, g2⟩
                go_simp
                have S3 : Sd w w2 B ao tn cap g gr (jj + (bif upd D 8 8 then 2 else (bif upd D 8 3 then 1 else 0))) b c n p l := (by have e4 : upd D 8 8 = true := rfl; rw [e4]; exact S2)
                exact hK _ _ ⟨.int .i64 (r : Int), (by show _ = Act.put _ (some 62) _; simp only [putAll, Act.put, List.setIfInBounds_toArray, List.set_cons_succ, List.set_cons_zero, *]; all_goals rfl), ⟨r, rfl, hr⟩, Fx.of g2 (.inl rfl), ⟨fun _ => S3, fun h => absurd h (noOf (D := D) (HC.out 13) (by kernel_rfl) HD.out)⟩⟩
              refine AllF.step (m := 4) (j := 10) rfl ?_ ?_
              · intro D f w1 hD hB hR hp hcl hX
                obtain ⟨q, e6, hq, hrow⟩ := (hpAt hp 6 (by kernel_rfl)).2
                replace e6 : f 60 = _ := e6
                obtain ⟨r, e8, hr⟩ := (hpAt hp 8 (by kernel_rfl)).2
                replace e8 : f 62 = _ := e8
                have hrI : (r : Int) < 5 := by omega
                have HX := Lib.hid hX
                have HC := Lib.hid hcl
                have HB := Lib.hid hB
                have HD := Lib.hid hD
                clear hX hcl hB hD hR hp
                refine wpOp_step rfl (fun K hK => ?_)
                simp only [putAll, Act.put, List.setIfInBounds_toArray, List.set_cons_succ, List.set_cons_zero]
                go_simp
                exact hK _ _ ⟨.pointer (some ⟨q, r, none⟩), (by show _ = Act.put _ (some 63) _; simp only [putAll, Act.put, List.setIfInBounds_toArray, List.set_cons_succ, List.set_cons_zero, *]; all_goals rfl), ⟨q, r, rfl, hr, hq, hrow⟩, Fx.refl _ _ _ _, HX.out⟩
              refine AllF.step (m := 3) (j := 11) rfl ?_ ?_
              · intro D f w1 hD hB hR hp hcl hX
                obtain ⟨q, r, e9, hr, hq, hrow⟩ := (hpAt hp 9 (by kernel_rfl)).2
                replace e9 : f 63 = _ := e9
                obtain ⟨x, hx, hxs⟩ := cell_str hrow hr rfl (by intro v hv; simp only [List.mem_cons, List.not_mem_nil, or_false] at hv; rcases hv with rfl | rfl | rfl | rfl | rfl <;> first | exact ks_lit | exact ⟨_, rfl, ks_ext _ _ _ (by decide)⟩)
                have HX := Lib.hid hX
                have HC := Lib.hid hcl
                have HB := Lib.hid hB
                have HD := Lib.hid hD
                clear hX hcl hB hD hR hp
                refine wpOp_step rfl (fun K hK => ?_)
                simp only [putAll, Act.put, List.setIfInBounds_toArray, List.set_cons_succ, List.set_cons_zero]
                go_simp
                exact hK _ _ ⟨.string x, (by show _ = Act.put _ (some 64) _; simp only [putAll, Act.put, List.setIfInBounds_toArray, List.set_cons_succ, List.set_cons_zero, *]; all_goals rfl), ⟨x, rfl, hxs⟩, Fx.refl _ _ _ _, HX.out⟩
              refine AllF.step (m := 2) (j := 12) rfl ?_ ?_
              · intro D f w1 hD hB hR hp hcl hX
                have e1 : f 55 = .slice (some ⟨b, 0, none⟩) n c := (hpAt hp 1 (by kernel_rfl)).2
                obtain ⟨r, e3, hr⟩ := (hpAt hp 3 (by kernel_rfl)).2
                replace e3 : f 57 = _ := e3
                have hrI : (r : Int) < (n : Int) := by have := HN2.out; omega
                have HX := Lib.hid hX
                have HC := Lib.hid hcl
                have HB := Lib.hid hB
                have HD := Lib.hid hD
                clear hX hcl hB hD hR hp
                refine wpOp_step rfl (fun K hK => ?_)
                simp only [putAll, Act.put, List.setIfInBounds_toArray, List.set_cons_succ, List.set_cons_zero]
                go_simp
                exact hK _ _ ⟨.pointer (some ⟨b, r * 2, none⟩), (by show _ = Act.put _ (some 65) _; simp only [putAll, Act.put, List.setIfInBounds_toArray, List.set_cons_succ, List.set_cons_zero, *]; all_goals rfl), ⟨r, hr, rfl⟩, Fx.refl _ _ _ _, HX.out⟩
              refine AllF.step (m := 1) (j := 13) rfl ?_ ?_
              · intro D f w1 hD hB hR hp hcl hX
                obtain ⟨r, hr, e11⟩ := (hpAt hp 11 (by kernel_rfl)).2
                replace e11 : f 65 = _ := e11
                have HX := Lib.hid hX
                have HC := Lib.hid hcl
                have HB := Lib.hid hB
                have HD := Lib.hid hD
                clear hX hcl hB hD hR hp
                refine wpOp_step rfl (fun K hK => ?_)
                simp only [putAll, Act.put, List.setIfInBounds_toArray, List.set_cons_succ, List.set_cons_zero]
                go_simp
                exact hK _ _ ⟨.pointer (some ⟨b, r * 2, none⟩), (by show _ = Act.put _ (some 66) _; simp only [putAll, Act.put, List.setIfInBounds_toArray, List.set_cons_succ, List.set_cons_zero, *]; all_goals rfl), ⟨r, hr, rfl⟩, Fx.refl _ _ _ _, HX.out⟩
              refine AllF.step (m := 0) (j := 14) rfl ?_ ?_
              · intro D f w1 hD hB hR hp hcl hX
                have d8 : D 8 = true := (hpAt hp 8 (by kernel_rfl)).1
                have d3 : D 3 = true := (hpAt hp 3 (by kernel_rfl)).1
                obtain ⟨r, hr, e12⟩ := (hpAt hp 12 (by kernel_rfl)).2
                replace e12 : f 66 = _ := e12
                obtain ⟨x, e10, hxs⟩ := (hpAt hp 10 (by kernel_rfl)).2
                replace e10 : f 64 = _ := e10
                have S : Sd w w1 B ao tn cap g gr (jj + 2) b c n p l := by have h := hX.1 hD; rw [d8] at h; exact h
                have hrl : r < l.length := by rw [S.len]; have := HN2.out; omega
                obtain ⟨v0, hv0⟩ : ∃ v, w1.cell? ⟨b, r * 2, none⟩ = some v := ⟨_, (S.own.cellAt (r * 2) (by rw [← S.len]; omega)).trans (List.getElem?_eq_getElem (by rw [atv_length]; omega))⟩
                have fz0 := S.own.frozenAt (r * 2)
                obtain ⟨ho, hs⟩ := S.own.stored (r * 2) (.string x)
                rw [(atv_set l r hrl x).1] at ho
                have S2 := S.row hBgr hwg hs ho ((S.sz.set r hrl x hxs).1)
                clear S ho
                have HX := Lib.hid hX
                have HC := Lib.hid hcl
                have HB := Lib.hid hB
                have HD := Lib.hid hD
                clear hX hcl hB hD hR hp
                refine wpOp_step rfl (fun K hK => ?_)
                simp only [putAll, Act.put, List.setIfInBounds_toArray, List.set_cons_succ, List.set_cons_zero]
                go_simp
                exact hK _ _ ⟨undef, (by show _ = Act.put _ (none) _; simp only [putAll, Act.put, List.setIfInBounds_toArray, List.set_cons_succ, List.set_cons_zero, *]; all_goals rfl), trivial, Fx.of hs (.inr (.inr (.inl rfl))), ⟨fun h => absurd (show true = false from h) (by decide), fun _ => ⟨_, S2⟩⟩⟩
              exact trivial
            · intro D f w1 hD hB hR hX
              obtain ⟨l', st8⟩ := hX.2 (hD 13 (by decide))
              clear hD hB hR hX
              simp only [putAll, Act.put, List.setIfInBounds_toArray, List.set_cons_succ, List.set_cons_zero]
              go_upto_region 22 with fail
              obtain ⟨W8, hW8⟩ : ∃ W, W = w1 := ⟨_, rfl⟩
              rw [← hW8] at st8
              rw [← hW8]
              clear hW8
              clear ST0
              have ST8 := Lib.hid st8
              obtain ⟨p0, p1, p2, p3, p4, p5, p6⟩ := st8.box.cells
              obtain ⟨r0, r1, r2, r3, r4, r5, r6⟩ := st8.zer.cells
              obtain ⟨f0, f1, f2, f3, f4, f5, f6⟩ := st8.zer.fz
              obtain ⟨j0, j1, j2, j3, j4, j5, j6⟩ := (set7_heap W8 gr (p : Pd) (.slice (some ⟨b, 0, none⟩) n c) st8.zer).cells
              have HD := Lib.hid (st8.done (i := j) hBgr HGR.out (by omega) (by omega))
              obtain ⟨W9, hW9⟩ : ∃ W, W = set7 W8 gr (p : Pd) (.slice (some ⟨b, 0, none⟩) n c) := ⟨_, rfl⟩
              rw [← hW9] at j0 j1 j2 j3 j4 j5 j6 HD
              clear st8
              try dsimp only at p0 p1 p2 p3 p4 p5 p6 j0 j1 j2 j3 j4 j5 j6 HD
              go_wp2_with fail
              unfold set7 at hW9
              try dsimp only at hW9
              rw [← hW9]
              refine bodyPost_ret (v := .agg #[.string (p : Pd).id, .string (p : Pd).co, .string (p : Pd).br, .int .i64 (p : Pd).d, .int .i64 (p : Pd).c, .int .i64 (p : Pd).a, .slice (some ⟨b, 0, none⟩) n c]) (by simp [results, Tryd.results6, go_sem, j0, j1, j2, j3, j4, j5, j6]) rfl ?_
              exact HD.out
          · skip
            by_cases hk5 : k = 5
            · subst hk5
              go_upto_region 15 with fail
              refine wp_region_any (by kernel_rfl) ?_
              refine region_ssa [69, 70, 71, 72, 73, 74, 75, 76, 77, 78, 79, 80, 81, 82, 83] (Fx B g b W0) (Fx B g b) (RLs (SpR15 B g b b n c)) (SpX15 w B ao tn cap g gr jj b c n p l) (fun f => rfl) (by kernel_rfl) (by kernel_rfl) ?_ ?_ ?_ ?_ (AllF.below (n := 16) ?_) ?_
              · exact (Fx.refl _ _ _ _).drew
              · intro f; exact ⟨fun _ => ST0.out.drew, fun h => (by cases h)⟩
              · intro i v w1 w2 _ h hE; exact RLs.stF (StL.all (l := SpR15 B g b b n c) ⟨StF.val _, StF.val _, StF.val _, StF.sat _, StF.val _, StF.val _, StF.val _, StF.val _, StF.row _, StF.val _, StF.sat _, StF.at _, StF.sat _, StF.sat _, StF.sat _, StF.any, trivial⟩) i v w1 w2 h hE
              · intro w1 w2 hB hE; exact hB.trans hE
              · refine AllF.step (m := 15) (j := 1) rfl ?_ ?_
                · intro D f w1 hD hB hR hp hcl hX
                  have HX := Lib.hid hX
                  have HC := Lib.hid hcl
                  have HB := Lib.hid hB
                  have HD := Lib.hid hD
                  clear hX hcl hB hD hR hp
                  refine wpOp_step rfl (fun K hK => ?_)
                  simp only [putAll, Act.put, List.setIfInBounds_toArray, List.set_cons_succ, List.set_cons_zero]
                  go_simp
                  exact hK _ _ ⟨.pointer (some ⟨g, 6, none⟩), (by show _ = Act.put _ (some 69) _; simp only [putAll, Act.put, List.setIfInBounds_toArray, List.set_cons_succ, List.set_cons_zero, *]; all_goals rfl), rfl, Fx.refl _ _ _ _, HX.out⟩
                refine AllF.step (m := 14) (j := 2) rfl ?_ ?_
                · intro D f w1 hD hB hR hp hcl hX
                  have e0 : f 69 = .pointer (some ⟨g, 6, none⟩) := (hpAt hp 0 (by kernel_rfl)).2
                  have k6 : w1.cell? ⟨g, 6, none⟩ = some (.slice (some ⟨b, 0, none⟩) n c) := by
                    have hl : D 15 = false := by
                      cases hd : D 15 with
                      | false => rfl
                      | true => exact absurd (hcl 15 hd 1 (by decide)) (by rw [hD]; decide)
                    exact (hX.1 hl).box.cells.2.2.2.2.2.2
                  have HX := Lib.hid hX
                  have HC := Lib.hid hcl
                  have HB := Lib.hid hB
                  have HD := Lib.hid hD
                  clear hX hcl hB hD hR hp
                  refine wpOp_step rfl (fun K hK => ?_)
                  simp only [putAll, Act.put, List.setIfInBounds_toArray, List.set_cons_succ, List.set_cons_zero]
                  go_simp
                  exact hK _ _ ⟨.slice (some ⟨b, 0, none⟩) n c, (by show _ = Act.put _ (some 70) _; simp only [putAll, Act.put, List.setIfInBounds_toArray, List.set_cons_succ, List.set_cons_zero, *]; all_goals rfl), rfl, Fx.refl _ _ _ _, HX.out⟩
                refine AllF.step (m := 13) (j := 3) rfl ?_ ?_
                · intro D f w1 hD hB hR hp hcl hX
                  have HX := Lib.hid hX
                  have HC := Lib.hid hcl
                  have HB := Lib.hid hB
                  have HD := Lib.hid hD
                  clear hX hcl hB hD hR hp
                  refine wpOp_step rfl (fun K hK => ?_)
                  simp only [putAll, Act.put, List.setIfInBounds_toArray, List.set_cons_succ, List.set_cons_zero]
                  go_simp
                  exact hK _ _ ⟨.pointer (some ⟨B, 0, none⟩), (by show _ = Act.put _ (some 71) _; simp only [putAll, Act.put, List.setIfInBounds_toArray, List.set_cons_succ, List.set_cons_zero, *]; all_goals rfl), rfl, Fx.refl _ _ _ _, HX.out⟩
                refine AllF.step (m := 12) (j := 4) rfl ?_ ?_
                · intro D f w1 hD hB hR hp hcl hX
                  have e2 : f 71 = .pointer (some ⟨B, 0, none⟩) := (hpAt hp 2 (by kernel_rfl)).2
                  have hl : D 15 = false := noF (hcl 15) (by kernel_rfl) hD
                  have h2 : D 10 = false := noF (hcl 10) (by kernel_rfl) hD
                  have S : Sd w w1 B ao tn cap g gr (jj) b c n p l := by have h := hX.1 hl; rw [h2, hD] at h; exact h
                  have HX := Lib.hid hX
                  have HC := Lib.hid hcl
                  have HB := Lib.hid hB
                  have HD := Lib.hid hD
                  clear hX hcl hB hD hR hp
                  refine wpOp_step rfl (fun K hK => ?_)
                  simp only [putAll, Act.put, List.setIfInBounds_toArray, List.set_cons_succ, List.set_cons_zero]
                  go_simp
                  refine (NX.out w1 g (jj + 0) 2 b c n p l S hgg (by omega) (by omega) (by omega) 2 rfl).mono ?_; rintro e w2 ⟨r, rfl, hr, S2, g2⟩
                  go_simp
                  have S3 : Sd w w2 B ao tn cap g gr (jj + (bif upd D 3 10 then 2 else (bif upd D 3 3 then 1 else 0))) b c n p l := (by have e4 : upd D 3 3 = true := rfl; have e2 : upd D 3 10 = false := h2; rw [e2, e4]; exact S2)
                  exact hK _ _ ⟨.int .i64 (r : Int), (by show _ = Act.put _ (some 72) _; simp only [putAll, Act.put, List.setIfInBounds_toArray, List.set_cons_succ, List.set_cons_zero, *]; all_goals rfl), ⟨r, rfl, hr⟩, Fx.of g2 (.inl rfl), ⟨fun _ => S3, fun h => absurd h (noOf (D := D) (HC.out 15) (by kernel_rfl) HD.out)⟩⟩
                refine AllF.step (m := 11) (j := 5) rfl ?_ ?_
                · intro D f w1 hD hB hR hp hcl hX
                  have HX := Lib.hid hX
                  have HC := Lib.hid hcl
                  have HB := Lib.hid hB
                  have HD := Lib.hid hD
                  clear hX hcl hB hD hR hp
                  refine wpOp_step rfl (fun K hK => ?_)
                  simp only [putAll, Act.put, List.setIfInBounds_toArray, List.set_cons_succ, List.set_cons_zero]
                  go_simp
                  exact hK _ _ ⟨.string ⟨#[97, 98, 99, 100, 101, 102, 103, 104, 105, 106, 107, 108, 109, 110, 111, 112, 113, 114, 115, 116, 117, 118, 119, 120, 121, 122]⟩, (by show _ = Act.put _ (some 73) _; simp only [putAll, Act.put, List.setIfInBounds_toArray, List.set_cons_succ, List.set_cons_zero, *]; all_goals rfl), rfl, Fx.refl _ _ _ _, HX.out⟩
                refine AllF.step (m := 10) (j := 6) rfl ?_ ?_
                · intro D f w1 hD hB hR hp hcl hX
                  have e4 : f 73 = .string ⟨#[97, 98, 99, 100, 101, 102, 103, 104, 105, 106, 107, 108, 109, 110, 111, 112, 113, 114, 115, 116, 117, 118, 119, 120, 121, 122]⟩ := (hpAt hp 4 (by kernel_rfl)).2
                  have HX := Lib.hid hX
                  have HC := Lib.hid hcl
                  have HB := Lib.hid hB
                  have HD := Lib.hid hD
                  clear hX hcl hB hD hR hp
                  refine wpOp_step rfl (fun K hK => ?_)
                  simp only [putAll, Act.put, List.setIfInBounds_toArray, List.set_cons_succ, List.set_cons_zero]
                  go_simp
                  exact hK _ _ ⟨.string ((⟨#[97, 98, 99, 100, 101, 102, 103, 104, 105, 106, 107, 108, 109, 110, 111, 112, 113, 114, 115, 116, 117, 118, 119, 120, 121, 122]⟩ : ByteArray).extract 0 25), (by show _ = Act.put _ (some 74) _; simp only [putAll, Act.put, List.setIfInBounds_toArray, List.set_cons_succ, List.set_cons_zero, *]; all_goals rfl), rfl, Fx.refl _ _ _ _, HX.out⟩
                refine AllF.step (m := 9) (j := 7) rfl ?_ ?_
                · intro D f w1 hD hB hR hp hcl hX
                  have HX := Lib.hid hX
                  have HC := Lib.hid hcl
                  have HB := Lib.hid hB
                  have HD := Lib.hid hD
                  clear hX hcl hB hD hR hp
                  refine wpOp_step rfl (fun K hK => ?_)
                  simp only [putAll, Act.put, List.setIfInBounds_toArray, List.set_cons_succ, List.set_cons_zero]
                  go_simp
                  exact hK _ _ ⟨.string ⟨#[97, 98, 99, 100, 101, 102, 103, 104, 105, 106, 107, 108, 109, 110, 111, 112, 113, 114, 115, 116, 117, 118, 119, 120, 121, 122]⟩, (by show _ = Act.put _ (some 75) _; simp only [putAll, Act.put, List.setIfInBounds_toArray, List.set_cons_succ, List.set_cons_zero, *]; all_goals rfl), rfl, Fx.refl _ _ _ _, HX.out⟩
                refine AllF.step (m := 8) (j := 8) rfl ?_ ?_
                · intro D f w1 hD hB hR hp hcl hX
                  have e6 : f 75 = .string ⟨#[97, 98, 99, 100, 101, 102, 103, 104, 105, 106, 107, 108, 109, 110, 111, 112, 113, 114, 115, 116, 117, 118, 119, 120, 121, 122]⟩ := (hpAt hp 6 (by kernel_rfl)).2
                  have HX := Lib.hid hX
                  have HC := Lib.hid hcl
                  have HB := Lib.hid hB
                  have HD := Lib.hid hD
                  clear hX hcl hB hD hR hp
                  refine wpOp_step rfl (fun K hK => ?_)
                  simp only [putAll, Act.put, List.setIfInBounds_toArray, List.set_cons_succ, List.set_cons_zero]
                  go_simp
                  exact hK _ _ ⟨.string ((⟨#[97, 98, 99, 100, 101, 102, 103, 104, 105, 106, 107, 108, 109, 110, 111, 112, 113, 114, 115, 116, 117, 118, 119, 120, 121, 122]⟩ : ByteArray).extract 0 24), (by show _ = Act.put _ (some 76) _; simp only [putAll, Act.put, List.setIfInBounds_toArray, List.set_cons_succ, List.set_cons_zero, *]; all_goals rfl), rfl, Fx.refl _ _ _ _, HX.out⟩
                refine AllF.step (m := 7) (j := 9) rfl ?_ ?_
                · intro D f w1 hD hB hR hp hcl hX
                  have e5 : f 74 = .string ((⟨#[97, 98, 99, 100, 101, 102, 103, 104, 105, 106, 107, 108, 109, 110, 111, 112, 113, 114, 115, 116, 117, 118, 119, 120, 121, 122]⟩ : ByteArray).extract 0 25) := (hpAt hp 5 (by kernel_rfl)).2
                  have e7 : f 76 = .string ((⟨#[97, 98, 99, 100, 101, 102, 103, 104, 105, 106, 107, 108, 109, 110, 111, 112, 113, 114, 115, 116, 117, 118, 119, 120, 121, 122]⟩ : ByteArray).extract 0 24) := (hpAt hp 7 (by kernel_rfl)).2
                  have hl : D 15 = false := noF (hcl 15) (by kernel_rfl) hD
                  have S := hX.1 hl
                  have z1 := S.tap.lt
                  have z2 := S.box.lt
                  have z3 := (S.own.lt b rfl).2
                  clear S
                  have HX := Lib.hid hX
                  have HC := Lib.hid hcl
                  have HB := Lib.hid hB
                  have HD := Lib.hid hD
                  clear hX hcl hB hD hR hp
                  refine wpOp_step rfl (fun K hK => ?_)
                  simp only [putAll, Act.put, List.setIfInBounds_toArray, List.set_cons_succ, List.set_cons_zero]
                  go_simp
                  exact hK _ _ ⟨.slice (some ⟨w1.heap.size, 0, none⟩) 5 5, (by show _ = Act.put _ (some 77) _; simp only [putAll, Act.put, List.setIfInBounds_toArray, List.set_cons_succ, List.set_cons_zero, *]; all_goals rfl), ⟨w1.heap.size, rfl, ⟨by omega, by omega, by omega⟩, heap_alloc_new _ _⟩, Fx.alloc _ _, ⟨fun h => (HX.out.1 h).below (below_new _ _), fun h => absurd h (noOf (D := D) (HC.out 15) (by kernel_rfl) HD.out)⟩⟩
                refine AllF.step (m := 6) (j := 10) rfl ?_ ?_
                · intro D f w1 hD hB hR hp hcl hX
                  have HX := Lib.hid hX
                  have HC := Lib.hid hcl
                  have HB := Lib.hid hB
                  have HD := Lib.hid hD
                  clear hX hcl hB hD hR hp
                  refine wpOp_step rfl (fun K hK => ?_)
                  simp only [putAll, Act.put, List.setIfInBounds_toArray, List.set_cons_succ, List.set_cons_zero]
                  go_simp
                  exact hK _ _ ⟨.pointer (some ⟨B, 0, none⟩), (by show _ = Act.put _ (some 78) _; simp only [putAll, Act.put, List.setIfInBounds_toArray, List.set_cons_succ, List.set_cons_zero, *]; all_goals rfl), rfl, Fx.refl _ _ _ _, HX.out⟩
                refine AllF.step (m := 5) (j := 11) rfl ?_ ?_
                · intro D f w1 hD hB hR hp hcl hX
                  have e9 : f 78 = .pointer (some ⟨B, 0, none⟩) := (hpAt hp 9 (by kernel_rfl)).2
                  have hl : D 15 = false := noF (hcl 15) (by kernel_rfl) hD
                  have d3 : D 3 = true := (hpAt hp 3 (by kernel_rfl)).1
                  have S : Sd w w1 B ao tn cap g gr (jj + 1) b c n p l := by have h := hX.1 hl; rw [hD, d3] at h; exact h
                  have HX := Lib.hid hX
                  have HC := Lib.hid hcl
                  have HB := Lib.hid hB
                  have HD := Lib.hid hD
                  clear hX hcl hB hD hR hp
                  refine wpOp_step rfl (fun K hK => ?_)
                  simp only [putAll, Act.put, List.setIfInBounds_toArray, List.set_cons_succ, List.set_cons_zero]
                  go_simp
                  refine (NX.out w1 g (jj + 1) 5 b c n p l S hgg (by omega) (by omega) (by omega) 5 rfl).mono ?_; rintro e w2 ⟨r, rfl, hr, S2, g2⟩
                  go_simp
                  have S3 : Sd w w2 B ao tn cap g gr (jj + (bif upd D 10 10 then 2 else (bif upd D 10 3 then 1 else 0))) b c n p l := (by have e4 : upd D 10 10 = true := rfl; rw [e4]; exact S2)
                  exact hK _ _ ⟨.int .i64 (r : Int), (by show _ = Act.put _ (some 79) _; simp only [putAll, Act.put, List.setIfInBounds_toArray, List.set_cons_succ, List.set_cons_zero, *]; all_goals rfl), ⟨r, rfl, hr⟩, Fx.of g2 (.inl rfl), ⟨fun _ => S3, fun h => absurd h (noOf (D := D) (HC.out 15) (by kernel_rfl) HD.out)⟩⟩
                refine AllF.step (m := 4) (j := 12) rfl ?_ ?_
                · intro D f w1 hD hB hR hp hcl hX
                  obtain ⟨q, e8, hq, hrow⟩ := (hpAt hp 8 (by kernel_rfl)).2
                  replace e8 : f 77 = _ := e8
                  obtain ⟨r, e10, hr⟩ := (hpAt hp 10 (by kernel_rfl)).2
                  replace e10 : f 79 = _ := e10
                  have hrI : (r : Int) < 5 := by omega
                  have HX := Lib.hid hX
                  have HC := Lib.hid hcl
                  have HB := Lib.hid hB
                  have HD := Lib.hid hD
                  clear hX hcl hB hD hR hp
                  refine wpOp_step rfl (fun K hK => ?_)
                  simp only [putAll, Act.put, List.setIfInBounds_toArray, List.set_cons_succ, List.set_cons_zero]
                  go_simp
                  exact hK _ _ ⟨.pointer (some ⟨q, r, none⟩), (by show _ = Act.put _ (some 80) _; simp only [putAll, Act.put, List.setIfInBounds_toArray, List.set_cons_succ, List.set_cons_zero, *]; all_goals rfl), ⟨q, r, rfl, hr, hq, hrow⟩, Fx.refl _ _ _ _, HX.out⟩
                refine AllF.step (m := 3) (j := 13) rfl ?_ ?_
                · intro D f w1 hD hB hR hp hcl hX
                  obtain ⟨q, r, e11, hr, hq, hrow⟩ := (hpAt hp 11 (by kernel_rfl)).2
                  replace e11 : f 80 = _ := e11
                  obtain ⟨x, hx, hxs⟩ := cell_str hrow hr rfl (by intro v hv; simp only [List.mem_cons, List.not_mem_nil, or_false] at hv; rcases hv with rfl | rfl | rfl | rfl | rfl <;> first | exact ks_lit | exact ⟨_, rfl, ks_ext _ _ _ (by decide)⟩)
                  have HX := Lib.hid hX
                  have HC := Lib.hid hcl
                  have HB := Lib.hid hB
                  have HD := Lib.hid hD
                  clear hX hcl hB hD hR hp
                  refine wpOp_step rfl (fun K hK => ?_)
                  simp only [putAll, Act.put, List.setIfInBounds_toArray, List.set_cons_succ, List.set_cons_zero]
                  go_simp
                  exact hK _ _ ⟨.string x, (by show _ = Act.put _ (some 81) _; simp only [putAll, Act.put, List.setIfInBounds_toArray, List.set_cons_succ, List.set_cons_zero, *]; all_goals rfl), ⟨x, rfl, hxs⟩, Fx.refl _ _ _ _, HX.out⟩
                refine AllF.step (m := 2) (j := 14) rfl ?_ ?_
                · intro D f w1 hD hB hR hp hcl hX
                  have e1 : f 70 = .slice (some ⟨b, 0, none⟩) n c := (hpAt hp 1 (by kernel_rfl)).2
                  obtain ⟨r, e3, hr⟩ := (hpAt hp 3 (by kernel_rfl)).2
                  replace e3 : f 72 = _ := e3
                  have hrI : (r : Int) < (n : Int) := by have := HN2.out; omega
                  have HX := Lib.hid hX
                  have HC := Lib.hid hcl
                  have HB := Lib.hid hB
                  have HD := Lib.hid hD
                  clear hX hcl hB hD hR hp
                  refine wpOp_step rfl (fun K hK => ?_)
                  simp only [putAll, Act.put, List.setIfInBounds_toArray, List.set_cons_succ, List.set_cons_zero]
                  go_simp
                  exact hK _ _ ⟨.pointer (some ⟨b, r * 2, none⟩), (by show _ = Act.put _ (some 82) _; simp only [putAll, Act.put, List.setIfInBounds_toArray, List.set_cons_succ, List.set_cons_zero, *]; all_goals rfl), ⟨r, hr, rfl⟩, Fx.refl _ _ _ _, HX.out⟩
                refine AllF.step (m := 1) (j := 15) rfl ?_ ?_
                · intro D f w1 hD hB hR hp hcl hX
                  obtain ⟨r, hr, e13⟩ := (hpAt hp 13 (by kernel_rfl)).2
                  replace e13 : f 82 = _ := e13
                  have HX := Lib.hid hX
                  have HC := Lib.hid hcl
                  have HB := Lib.hid hB
                  have HD := Lib.hid hD
                  clear hX hcl hB hD hR hp
                  refine wpOp_step rfl (fun K hK => ?_)
                  simp only [putAll, Act.put, List.setIfInBounds_toArray, List.set_cons_succ, List.set_cons_zero]
                  go_simp
                  exact hK _ _ ⟨.pointer (some ⟨b, r * 2 + 1, none⟩), (by show _ = Act.put _ (some 83) _; simp only [putAll, Act.put, List.setIfInBounds_toArray, List.set_cons_succ, List.set_cons_zero, *]; all_goals rfl), ⟨r, hr, rfl⟩, Fx.refl _ _ _ _, HX.out⟩
                refine AllF.step (m := 0) (j := 16) rfl ?_ ?_
                · intro D f w1 hD hB hR hp hcl hX
                  have d10 : D 10 = true := (hpAt hp 10 (by kernel_rfl)).1
                  have d3 : D 3 = true := (hpAt hp 3 (by kernel_rfl)).1
                  obtain ⟨r, hr, e14⟩ := (hpAt hp 14 (by kernel_rfl)).2
                  replace e14 : f 83 = _ := e14
                  obtain ⟨x, e12, hxs⟩ := (hpAt hp 12 (by kernel_rfl)).2
                  replace e12 : f 81 = _ := e12
                  have S : Sd w w1 B ao tn cap g gr (jj + 2) b c n p l := by have h := hX.1 hD; rw [d10] at h; exact h
                  have hrl : r < l.length := by rw [S.len]; have := HN2.out; omega
                  obtain ⟨v0, hv0⟩ : ∃ v, w1.cell? ⟨b, r * 2 + 1, none⟩ = some v := ⟨_, (S.own.cellAt (r * 2 + 1) (by rw [← S.len]; omega)).trans (List.getElem?_eq_getElem (by rw [atv_length]; omega))⟩
                  have fz0 := S.own.frozenAt (r * 2 + 1)
                  obtain ⟨ho, hs⟩ := S.own.stored (r * 2 + 1) (.string x)
                  rw [(atv_set l r hrl x).2] at ho
                  have S2 := S.row hBgr hwg hs ho ((S.sz.set r hrl x hxs).2)
                  clear S ho
                  have HX := Lib.hid hX
                  have HC := Lib.hid hcl
                  have HB := Lib.hid hB
                  have HD := Lib.hid hD
                  clear hX hcl hB hD hR hp
                  refine wpOp_step rfl (fun K hK => ?_)
                  simp only [putAll, Act.put, List.setIfInBounds_toArray, List.set_cons_succ, List.set_cons_zero]
                  go_simp
                  exact hK _ _ ⟨undef, (by show _ = Act.put _ (none) _; simp only [putAll, Act.put, List.setIfInBounds_toArray, List.set_cons_succ, List.set_cons_zero, *]; all_goals rfl), trivial, Fx.of hs (.inr (.inr (.inl rfl))), ⟨fun h => absurd (show true = false from h) (by decide), fun _ => ⟨_, S2⟩⟩⟩
                exact trivial
              · intro D f w1 hD hB hR hX
                obtain ⟨l', st8⟩ := hX.2 (hD 15 (by decide))
                clear hD hB hR hX
                simp only [putAll, Act.put, List.setIfInBounds_toArray, List.set_cons_succ, List.set_cons_zero]
                go_upto_region 22 with fail
                obtain ⟨W8, hW8⟩ : ∃ W, W = w1 := ⟨_, rfl⟩
                rw [← hW8] at st8
                rw [← hW8]
                clear hW8
                clear ST0
                have ST8 := Lib.hid st8
                obtain ⟨p0, p1, p2, p3, p4, p5, p6⟩ := st8.box.cells
                obtain ⟨r0, r1, r2, r3, r4, r5, r6⟩ := st8.zer.cells
                obtain ⟨f0, f1, f2, f3, f4, f5, f6⟩ := st8.zer.fz
                obtain ⟨j0, j1, j2, j3, j4, j5, j6⟩ := (set7_heap W8 gr (p : Pd) (.slice (some ⟨b, 0, none⟩) n c) st8.zer).cells
                have HD := Lib.hid (st8.done (i := j) hBgr HGR.out (by omega) (by omega))
                obtain ⟨W9, hW9⟩ : ∃ W, W = set7 W8 gr (p : Pd) (.slice (some ⟨b, 0, none⟩) n c) := ⟨_, rfl⟩
                rw [← hW9] at j0 j1 j2 j3 j4 j5 j6 HD
                clear st8
                try dsimp only at p0 p1 p2 p3 p4 p5 p6 j0 j1 j2 j3 j4 j5 j6 HD
                go_wp2_with fail
                unfold set7 at hW9
                try dsimp only at hW9
                rw [← hW9]
                refine bodyPost_ret (v := .agg #[.string (p : Pd).id, .string (p : Pd).co, .string (p : Pd).br, .int .i64 (p : Pd).d, .int .i64 (p : Pd).c, .int .i64 (p : Pd).a, .slice (some ⟨b, 0, none⟩) n c]) (by simp [results, Tryd.results6, go_sem, j0, j1, j2, j3, j4, j5, j6]) rfl ?_
                exact HD.out
            · skip
              by_cases hk6 : k = 6
              · subst hk6
                go_wp2_with fail
                refine (NX.out W0 g jj 4 b c n p l ST0.out hgg (by omega) (by omega) (by omega) 4 rfl).mono ?_; rintro e w5 ⟨r5, rfl, hr5, st5, gb5⟩
                obtain ⟨m, hm⟩ : ∃ m : Nat, (9 : Int) + (r5 : Int) = (m : Int) := ⟨9 + r5, by omega⟩
                have hm12 : m ≤ 12 := by omega
                have hmw : IntKind.i64.wrap (m : Int) = (m : Int) := IntWalk.i64_in _ (by omega)
                obtain ⟨J, hJ⟩ : ∃ x, x = jj + 1 := ⟨_, rfl⟩
                rw [← hJ] at st5
                have hJ8 : J ≤ j + 8 := by omega
                clear hJ
                have ST5 := Lib.hid st5
                have HN2' := Lib.hid HN2.out
                clear st5 ST0 gb5
                go_wp2_with fail
                clear hm hmw
                go_loopw [89] (fun s89 wr => ∃ (i b c n : Nat) (l : List Atr), i ≤ m ∧ s89 = .int .i64 (i : Int) ∧ Hid (n = 2 + i) ∧ Hid (Sd w wr B ao tn cap g gr J b c n p l)) (fun s89 _ => m - (intOf s89).toNat)
                case atStart => exact ⟨0, b, c, n, l, by omega, rfl, HN2'.out, ST5⟩
                case round =>
                  obtain ⟨i, b, c, n, l, him, rfl, hn2, hS⟩ := hrel
                  by_cases hlt : i < m
                  · have hlt2 : (i : Int) < (m : Int) := by omega
                    obtain ⟨W0, hW0⟩ : ∃ W, W = wr := ⟨_, rfl⟩
                    have ST0 : Hid (Sd w W0 B ao tn cap g gr J b c n p l) := by rw [hW0]; exact hS
                    have hi12 : i ≤ 11 := by omega
                    rw [← hW0]
                    clear hS hW0
                    have hn14 : n ≤ 13 := by have := hn2.out; omega
                    go_upto_region 20 with fail
                    refine wp_region_any (by kernel_rfl) ?_
                    refine region_ssa [92, 93, 94, 95, 96, 97, 98, 99, 100, 101, 102] (Fx B g b W0) (Fx B g b) (RP (SpR20 g b n c i)) (SpX20 i w B ao tn cap g gr J b c n p l) (fun f => rfl) (by kernel_rfl) (by kernel_rfl) ?_ ?_ ?_ ?_ (AllF.below (n := 12) ?_) ?_
                    · exact (Fx.refl _ _ _ _).drew
                    · intro f; exact ⟨fun _ => ST0.out.drew, fun h => (by cases h), fun h => (by cases h)⟩
                    · intro i v w1 w2 _ h _; exact h
                    · intro w1 w2 hB hE; exact hB.trans hE
                    · refine AllF.step (m := 11) (j := 1) rfl ?_ ?_
                      · intro D f w1 hD hB hR hp hcl hX
                        have HX := Lib.hid hX
                        have HC := Lib.hid hcl
                        have HB := Lib.hid hB
                        have HD := Lib.hid hD
                        clear hX hcl hB hD hR hp
                        refine wpOp_step rfl (fun K hK => ?_)
                        simp only [putAll, Act.put, List.setIfInBounds_toArray, List.set_cons_succ, List.set_cons_zero]
                        go_simp
                        exact hK _ _ ⟨.pointer (some ⟨g, 6, none⟩), (by show _ = Act.put _ (some 92) _; simp only [putAll, Act.put, List.setIfInBounds_toArray, List.set_cons_succ, List.set_cons_zero, *]; all_goals rfl), rfl, Fx.refl _ _ _ _, HX.out⟩
                      refine AllF.step (m := 10) (j := 2) rfl ?_ ?_
                      · intro D f w1 hD hB hR hp hcl hX
                        have e0 : f 92 = .pointer (some ⟨g, 6, none⟩) := (hpAt hp 0 (by kernel_rfl)).2
                        have k6 : w1.cell? ⟨g, 6, none⟩ = some (.slice (some ⟨b, 0, none⟩) n c) := (hX.1 (noF (hcl 9) (by kernel_rfl) hD)).box.cells.2.2.2.2.2.2
                        have HX := Lib.hid hX
                        have HC := Lib.hid hcl
                        have HB := Lib.hid hB
                        have HD := Lib.hid hD
                        clear hX hcl hB hD hR hp
                        refine wpOp_step rfl (fun K hK => ?_)
                        simp only [putAll, Act.put, List.setIfInBounds_toArray, List.set_cons_succ, List.set_cons_zero]
                        go_simp
                        exact hK _ _ ⟨.slice (some ⟨b, 0, none⟩) n c, (by show _ = Act.put _ (some 93) _; simp only [putAll, Act.put, List.setIfInBounds_toArray, List.set_cons_succ, List.set_cons_zero, *]; all_goals rfl), rfl, Fx.refl _ _ _ _, HX.out⟩
                      refine AllF.step (m := 9) (j := 3) rfl ?_ ?_
                      · intro D f w1 hD hB hR hp hcl hX
                        have HX := Lib.hid hX
                        have HC := Lib.hid hcl
                        have HB := Lib.hid hB
                        have HD := Lib.hid hD
                        clear hX hcl hB hD hR hp
                        refine wpOp_step rfl (fun K hK => ?_)
                        simp only [putAll, Act.put, List.setIfInBounds_toArray, List.set_cons_succ, List.set_cons_zero]
                        go_simp
                        exact hK _ _ ⟨.string ⟨#[97, 98, 99, 100, 101, 102, 103, 104, 105, 106, 107, 108, 109, 110, 111, 112, 113, 114, 115, 116, 117, 118, 119, 120, 121, 122]⟩, (by show _ = Act.put _ (some 94) _; simp only [putAll, Act.put, List.setIfInBounds_toArray, List.set_cons_succ, List.set_cons_zero, *]; all_goals rfl), rfl, Fx.refl _ _ _ _, HX.out⟩
                      refine AllF.step (m := 8) (j := 4) rfl ?_ ?_
                      · intro D f w1 hD hB hR hp hcl hX
                        have HX := Lib.hid hX
                        have HC := Lib.hid hcl
                        have HB := Lib.hid hB
                        have HD := Lib.hid hD
                        clear hX hcl hB hD hR hp
                        refine wpOp_step rfl (fun K hK => ?_)
                        simp only [putAll, Act.put, List.setIfInBounds_toArray, List.set_cons_succ, List.set_cons_zero]
                        go_simp
                        exact hK _ _ ⟨.int .i64 (i : Int), (by show _ = Act.put _ (some 95) _; simp only [putAll, Act.put, List.setIfInBounds_toArray, List.set_cons_succ, List.set_cons_zero, *]; all_goals rfl), rfl, Fx.refl _ _ _ _, HX.out⟩
                      refine AllF.step (m := 7) (j := 5) rfl ?_ ?_
                      · intro D f w1 hD hB hR hp hcl hX
                        have HX := Lib.hid hX
                        have HC := Lib.hid hcl
                        have HB := Lib.hid hB
                        have HD := Lib.hid hD
                        clear hX hcl hB hD hR hp
                        refine wpOp_step rfl (fun K hK => ?_)
                        simp only [putAll, Act.put, List.setIfInBounds_toArray, List.set_cons_succ, List.set_cons_zero]
                        go_simp
                        exact hK _ _ ⟨.int .i64 (i : Int), (by show _ = Act.put _ (some 96) _; simp only [putAll, Act.put, List.setIfInBounds_toArray, List.set_cons_succ, List.set_cons_zero, *]; all_goals rfl), rfl, Fx.refl _ _ _ _, HX.out⟩
                      refine AllF.step (m := 6) (j := 6) rfl ?_ ?_
                      · intro D f w1 hD hB hR hp hcl hX
                        have e4 : f 96 = .int .i64 (i : Int) := (hpAt hp 4 (by kernel_rfl)).2
                        have hiw : IntKind.i64.wrap ((i : Int) + 2) = (i : Int) + 2 := IntWalk.i64_in _ (by omega)
                        have HX := Lib.hid hX
                        have HC := Lib.hid hcl
                        have HB := Lib.hid hB
                        have HD := Lib.hid hD
                        clear hX hcl hB hD hR hp
                        refine wpOp_step rfl (fun K hK => ?_)
                        simp only [putAll, Act.put, List.setIfInBounds_toArray, List.set_cons_succ, List.set_cons_zero]
                        go_simp
                        exact hK _ _ ⟨.int .i64 ((i : Int) + 2), (by show _ = Act.put _ (some 97) _; simp only [putAll, Act.put, List.setIfInBounds_toArray, List.set_cons_succ, List.set_cons_zero, *]; all_goals rfl), rfl, Fx.refl _ _ _ _, HX.out⟩
                      refine AllF.step (m := 5) (j := 7) rfl ?_ ?_
                      · intro D f w1 hD hB hR hp hcl hX
                        have e2 : f 94 = .string ⟨#[97, 98, 99, 100, 101, 102, 103, 104, 105, 106, 107, 108, 109, 110, 111, 112, 113, 114, 115, 116, 117, 118, 119, 120, 121, 122]⟩ := (hpAt hp 2 (by kernel_rfl)).2
                        have e3 : f 95 = .int .i64 (i : Int) := (hpAt hp 3 (by kernel_rfl)).2
                        have e5 : f 97 = .int .i64 ((i : Int) + 2) := (hpAt hp 5 (by kernel_rfl)).2
                        have hit : Int.toNat ((i : Int) + 2) = i + 2 := by omega
                        have hi26 : (i : Int) + 2 ≤ 26 := by omega
                        have hi0 : (0 : Int) ≤ (i : Int) + 2 := by omega
                        have hi2 : (i : Int) ≤ (i : Int) + 2 := by omega
                        have HX := Lib.hid hX
                        have HC := Lib.hid hcl
                        have HB := Lib.hid hB
                        have HD := Lib.hid hD
                        clear hX hcl hB hD hR hp
                        refine wpOp_step rfl (fun K hK => ?_)
                        simp only [putAll, Act.put, List.setIfInBounds_toArray, List.set_cons_succ, List.set_cons_zero]
                        go_simp
                        exact hK _ _ ⟨.string ((⟨#[97, 98, 99, 100, 101, 102, 103, 104, 105, 106, 107, 108, 109, 110, 111, 112, 113, 114, 115, 116, 117, 118, 119, 120, 121, 122]⟩ : ByteArray).extract i (i + 2)), (by show _ = Act.put _ (some 98) _; simp only [putAll, Act.put, List.setIfInBounds_toArray, List.set_cons_succ, List.set_cons_zero, *]; all_goals rfl), rfl, Fx.refl _ _ _ _, HX.out⟩
                      refine AllF.step (m := 4) (j := 8) rfl ?_ ?_
                      · intro D f w1 hD hB hR hp hcl hX
                        have e6 : f 98 = .string ((⟨#[97, 98, 99, 100, 101, 102, 103, 104, 105, 106, 107, 108, 109, 110, 111, 112, 113, 114, 115, 116, 117, 118, 119, 120, 121, 122]⟩ : ByteArray).extract i (i + 2)) := (hpAt hp 6 (by kernel_rfl)).2
                        have HX := Lib.hid hX
                        have HC := Lib.hid hcl
                        have HB := Lib.hid hB
                        have HD := Lib.hid hD
                        clear hX hcl hB hD hR hp
                        refine wpOp_step rfl (fun K hK => ?_)
                        simp only [putAll, Act.put, List.setIfInBounds_toArray, List.set_cons_succ, List.set_cons_zero]
                        go_simp
                        exact hK _ _ ⟨.agg #[.string ((⟨#[97, 98, 99, 100, 101, 102, 103, 104, 105, 106, 107, 108, 109, 110, 111, 112, 113, 114, 115, 116, 117, 118, 119, 120, 121, 122]⟩ : ByteArray).extract i (i + 2)), .string ⟨#[118]⟩], (by show _ = Act.put _ (some 99) _; simp only [putAll, Act.put, List.setIfInBounds_toArray, List.set_cons_succ, List.set_cons_zero, *]; all_goals rfl), rfl, Fx.refl _ _ _ _, HX.out⟩
                      refine AllF.step (m := 3) (j := 9) rfl ?_ ?_
                      · intro D f w1 hD hB hR hp hcl hX
                        have e7 : f 99 = .agg #[.string ((⟨#[97, 98, 99, 100, 101, 102, 103, 104, 105, 106, 107, 108, 109, 110, 111, 112, 113, 114, 115, 116, 117, 118, 119, 120, 121, 122]⟩ : ByteArray).extract i (i + 2)), .string ⟨#[118]⟩] := (hpAt hp 7 (by kernel_rfl)).2
                        have h9 : D 9 = false := noF (hcl 9) (by kernel_rfl) hD
                        have S := hX.1 h9
                        have z1 := S.tap.lt
                        have z2 := S.box.lt
                        have z3 := (S.own.lt b rfl).2
                        clear S
                        have HX := Lib.hid hX
                        have HC := Lib.hid hcl
                        have HB := Lib.hid hB
                        have HD := Lib.hid hD
                        clear hX hcl hB hD hR hp
                        refine wpOp_step rfl (fun K hK => ?_)
                        simp only [putAll, Act.put, List.setIfInBounds_toArray, List.set_cons_succ, List.set_cons_zero]
                        go_simp
                        exact hK _ _ ⟨.slice (some ⟨w1.heap.size, 0, none⟩) 1 1, (by show _ = Act.put _ (some 100) _; simp only [putAll, Act.put, List.setIfInBounds_toArray, List.set_cons_succ, List.set_cons_zero, *]; all_goals rfl), trivial, Fx.alloc _ _, ⟨fun h => (HX.out.1 h).below (below_new _ _), fun _ _ => ⟨w1.heap.size, rfl, heap_alloc_new _ _⟩, fun h => absurd h (noOf (D := D) (HC.out 9) (by kernel_rfl) HD.out)⟩⟩
                      refine AllF.step (m := 2) (j := 10) rfl ?_ ?_
                      · intro D f w1 hD hB hR hp hcl hX
                        have e1 : f 93 = .slice (some ⟨b, 0, none⟩) n c := (hpAt hp 1 (by kernel_rfl)).2
                        have d8 : D 8 = true := (hpAt hp 8 (by kernel_rfl)).1
                        have S := hX.1 hD
                        obtain ⟨q, e8, hrow⟩ := hX.2.1 d8 hD
                        have z0 := S.own.1
                        have z3 := (S.own.lt b rfl).2
                        have z4 := S.box.lt
                        have HX := Lib.hid hX
                        have HC := Lib.hid hcl
                        have HB := Lib.hid hB
                        have HD := Lib.hid hD
                        clear hX hcl hB hD hR hp
                        refine wpOp_step rfl (fun K hK => ?_)
                        simp only [putAll, Act.put, List.setIfInBounds_toArray, List.set_cons_succ, List.set_cons_zero]
                        rw [if_pos (by simp [Region.wanted])]
                        refine wp_append_own w1 (.tmp 93) (.tmp 100) 24 (by rfl) (gr + 1) 52 i0 (.agg #[.string ByteArray.empty, .string ByteArray.empty]) 2 32 Tryd.underlying24 hi hz0 hz1 hz2 rfl (by decide) (.slice (some ⟨b, 0, none⟩) n c) n (atv l) (by simp [Act.eval, e1]) S.own ⟨q, 0, none⟩ 1 1 (atv [(((⟨#[97, 98, 99, 100, 101, 102, 103, 104, 105, 106, 107, 108, 109, 110, 111, 112, 113, 114, 115, 116, 117, 118, 119, 120, 121, 122]⟩ : ByteArray).extract i (i + 2)), ⟨#[118]⟩)]) (by simp [Act.eval, e8]) rfl (row_two hrow) (atv_one' _) (by unfold maxLen; omega) (by omega) (by omega) ?_; intro v4 w4 hown4 hgr4 _; obtain ⟨b4, c4, rfl, hb4, hg4⟩ := own_some hown4 (Nat.succ_pos n)
                        have HO4 : Hid (w4.ownsRow (gr + 1) 52 2 (.slice (some ⟨b4, 0, none⟩) (n + 1) c4) (n + 1) (atv (l ++ [(((⟨#[97, 98, 99, 100, 101, 102, 103, 104, 105, 106, 107, 108, 109, 110, 111, 112, 113, 114, 115, 116, 117, 118, 119, 120, 121, 122]⟩ : ByteArray).extract i (i + 2)), ⟨#[118]⟩)]))) := by unfold Hid; rw [atv_append]; exact hown4
                        exact hK _ _ ⟨.slice (some ⟨b4, 0, none⟩) (n + 1) c4, (by show _ = Act.put _ (some 101) _; simp only [putAll, Act.put, List.setIfInBounds_toArray, List.set_cons_succ, List.set_cons_zero, *]; all_goals rfl), trivial, Fx.of hgr4 (.inr (.inr (.inl rfl))), ⟨fun h => absurd (show true = false from h) (by decide), fun _ h => absurd (show true = false from h) (by decide), fun _ => ⟨b4, c4, rfl, fun _ => ⟨w1, S, hgr4, HO4.out⟩, fun h => absurd h (noOf (D := D) (HC.out 11) (by kernel_rfl) HD.out)⟩⟩⟩
                      refine AllF.step (m := 1) (j := 11) rfl ?_ ?_
                      · intro D f w1 hD hB hR hp hcl hX
                        have HX := Lib.hid hX
                        have HC := Lib.hid hcl
                        have HB := Lib.hid hB
                        have HD := Lib.hid hD
                        clear hX hcl hB hD hR hp
                        refine wpOp_step rfl (fun K hK => ?_)
                        simp only [putAll, Act.put, List.setIfInBounds_toArray, List.set_cons_succ, List.set_cons_zero]
                        go_simp
                        exact hK _ _ ⟨.pointer (some ⟨g, 6, none⟩), (by show _ = Act.put _ (some 102) _; simp only [putAll, Act.put, List.setIfInBounds_toArray, List.set_cons_succ, List.set_cons_zero, *]; all_goals rfl), rfl, Fx.refl _ _ _ _, ⟨HX.out.1, HX.out.2.1, HX.out.2.2⟩⟩
                      refine AllF.step (m := 0) (j := 12) rfl ?_ ?_
                      · intro D f w1 hD hB hR hp hcl hX
                        have e10 : f 102 = .pointer (some ⟨g, 6, none⟩) := (hpAt hp 10 (by kernel_rfl)).2
                        have d9 : D 9 = true := (hpAt hp 9 (by kernel_rfl)).1
                        obtain ⟨b4, c4, e9, hS, _⟩ := hX.2.2 d9
                        obtain ⟨w3, S, hgr4, hO4⟩ := hS hD
                        have hpb := S.box.grown hgr4 (fun e => S.ne (Option.some.inj e).symm)
                        obtain ⟨f0, f1, f2, f3, f4, f5, f6⟩ := hpb.fz
                        obtain ⟨k0, k1, k2, k3, k4, k5, k6⟩ := hpb.cells
                        have S2 := S.app hBgr hgg hwg hgr4 hO4 (⟨S.sz.co, S.sz.br, fun y hy => (List.mem_append.1 hy).elim (S.sz.at1 y) (fun h => by rw [List.mem_singleton.1 h]; exact ⟨ks_ext _ _ _ (by omega), show (⟨#[118]⟩ : ByteArray).size ≤ 100 by decide⟩), S.sz.id, S.sz.qb⟩)
                        clear S hO4 hpb
                        have HX := Lib.hid hX
                        have HC := Lib.hid hcl
                        have HB := Lib.hid hB
                        have HD := Lib.hid hD
                        clear hX hcl hB hD hR hp
                        refine wpOp_step rfl (fun K hK => ?_)
                        simp only [putAll, Act.put, List.setIfInBounds_toArray, List.set_cons_succ, List.set_cons_zero]
                        go_simp
                        exact hK _ _ ⟨undef, (by show _ = Act.put _ (none) _; simp only [putAll, Act.put, List.setIfInBounds_toArray, List.set_cons_succ, List.set_cons_zero, *]; all_goals rfl), trivial, Fx.of (gb_set w1 g 6 _) (.inr (.inl rfl)), ⟨fun h => absurd (d9.symm.trans h) (by decide), fun _ h => absurd (d9.symm.trans h) (by decide), fun _ => ⟨b4, c4, e9, fun h => absurd (show true = false from h) (by decide), fun _ => ⟨_, S2⟩⟩⟩⟩
                      exact trivial
                    · intro D f w6 hD hB hR hX
                      obtain ⟨b4, c4, e101, _, hl⟩ := hX.2.2 (hD 9 (by decide))
                      obtain ⟨l', st8⟩ := hl (hD 11 (by decide))
                      have ST8 := Lib.hid st8
                      have HN3 : Hid (n + 1 = 2 + (i + 1)) := by have := hn2.out; unfold Hid; omega
                      clear hX hR hB hD hl st8 ST0
                      simp only [putAll, Act.put, List.setIfInBounds_toArray, List.set_cons_succ, List.set_cons_zero]
                      go_wp2_with fail
                      go_roundw
                      case rel => exact ⟨i + 1, b4, c4, n + 1, l', by omega, by go_num, HN3, ST8⟩
                      case measure => simp [intOf]; omega
                  · obtain rfl : i = m := by omega
                    have hlt2 : ¬ (i : Int) < (i : Int) := by omega
                    have hn14 : n ≤ 14 := by have := hn2.out; omega
                    go_upto_region 22 with fail
                    obtain ⟨W8, hW8⟩ : ∃ W, W = wr := ⟨_, rfl⟩
                    have st8 := hS.out
                    rw [← hW8] at st8
                    rw [← hW8]
                    have ST0 := Lib.hid hW8
                    clear hW8 hS
                    clear ST0
                    have ST8 := Lib.hid st8
                    obtain ⟨p0, p1, p2, p3, p4, p5, p6⟩ := st8.box.cells
                    obtain ⟨r0, r1, r2, r3, r4, r5, r6⟩ := st8.zer.cells
                    obtain ⟨f0, f1, f2, f3, f4, f5, f6⟩ := st8.zer.fz
                    obtain ⟨j0, j1, j2, j3, j4, j5, j6⟩ := (set7_heap W8 gr (p : Pd) (.slice (some ⟨b, 0, none⟩) n c) st8.zer).cells
                    have HD := Lib.hid (st8.done (i := j) hBgr HGR.out (by omega) (by omega))
                    obtain ⟨W9, hW9⟩ : ∃ W, W = set7 W8 gr (p : Pd) (.slice (some ⟨b, 0, none⟩) n c) := ⟨_, rfl⟩
                    rw [← hW9] at j0 j1 j2 j3 j4 j5 j6 HD
                    clear st8
                    try dsimp only at p0 p1 p2 p3 p4 p5 p6 j0 j1 j2 j3 j4 j5 j6 HD
                    go_wp2_with fail
                    unfold set7 at hW9
                    try dsimp only at hW9
                    rw [← hW9]
                    refine bodyPost_ret (v := .agg #[.string (p : Pd).id, .string (p : Pd).co, .string (p : Pd).br, .int .i64 (p : Pd).d, .int .i64 (p : Pd).c, .int .i64 (p : Pd).a, .slice (some ⟨b, 0, none⟩) n c]) (by simp [results, Tryd.results6, go_sem, j0, j1, j2, j3, j4, j5, j6]) rfl ?_
                    exact HD.out
              · skip
                have hk0I : ((k : Int) == 0) = false := by simp; omega
                have hk1I : ((k : Int) == 1) = false := by simp; omega
                have hk2I : ((k : Int) == 2) = false := by simp; omega
                have hk3I : ((k : Int) == 3) = false := by simp; omega
                have hk4I : ((k : Int) == 4) = false := by simp; omega
                have hk5I : ((k : Int) == 5) = false := by simp; omega
                have hk6I : ((k : Int) == 6) = false := by simp; omega
                go_upto_region 22 with fail
                obtain ⟨W8, hW8⟩ : ∃ W, W = W0 := ⟨_, rfl⟩
                have st8 := ST0.out
                rw [← hW8] at st8
                rw [← hW8]
                clear hW8
                clear ST0
                have ST8 := Lib.hid st8
                obtain ⟨p0, p1, p2, p3, p4, p5, p6⟩ := st8.box.cells
                obtain ⟨r0, r1, r2, r3, r4, r5, r6⟩ := st8.zer.cells
                obtain ⟨f0, f1, f2, f3, f4, f5, f6⟩ := st8.zer.fz
                obtain ⟨j0, j1, j2, j3, j4, j5, j6⟩ := (set7_heap W8 gr (p : Pd) (.slice (some ⟨b, 0, none⟩) n c) st8.zer).cells
                have HD := Lib.hid (st8.done (i := j) hBgr HGR.out (by omega) (by omega))
                obtain ⟨W9, hW9⟩ : ∃ W, W = set7 W8 gr (p : Pd) (.slice (some ⟨b, 0, none⟩) n c) := ⟨_, rfl⟩
                rw [← hW9] at j0 j1 j2 j3 j4 j5 j6 HD
                clear st8
                try dsimp only at p0 p1 p2 p3 p4 p5 p6 j0 j1 j2 j3 j4 j5 j6 HD
                go_wp2_with fail
                unfold set7 at hW9
                try dsimp only at hW9
                rw [← hW9]
                refine bodyPost_ret (v := .agg #[.string (p : Pd).id, .string (p : Pd).co, .string (p : Pd).br, .int .i64 (p : Pd).d, .int .i64 (p : Pd).c, .int .i64 (p : Pd).a, .slice (some ⟨b, 0, none⟩) n c]) (by simp [results, Tryd.results6, go_sem, j0, j1, j2, j3, j4, j5, j6]) rfl ?_
                exact HD.out
end Go.Proofs.YtkedgkfdmdlhoaaDoor.P9
