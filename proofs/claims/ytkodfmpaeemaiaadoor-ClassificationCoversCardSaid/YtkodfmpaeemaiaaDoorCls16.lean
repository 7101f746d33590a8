import Derived.Test.YtkodfmpaeemaiaaDoorCls15
import Derived.Test.YtkodfmpaeemaiaaDoorClsT
/- Made trees: Tape.Tree gives a valid classification. -/
namespace Go.Proofs.YtkodfmpaeemaiaaDoor.C6
open Go.RowKit Go.Sort

/-- all strings stand where they may -/
def VL (l : List ByteArray) : Prop := ∀ j, j < l.length → vst l j = 0
theorem VL.nil : VL [] := fun j hj => by simp at hj
theorem VL.snoc {l : List ByteArray} {s : ByteArray} (h : VL l) (k : vs l s = 0) : VL (l ++ [s]) := fun j hj => by
  by_cases hj' : j < l.length
  · have e : vst (l ++ [s]) j = vst l j := by
      unfold vst
      rw [List.take_append_of_le_length (Nat.le_of_lt hj')]
      congr 1
      simp [List.getD, List.getElem?_append_left hj']
    rw [e]; exact h j hj'
  · have : j = l.length := by simp at hj; omega
    subst this
    have e : vst (l ++ [s]) l.length = vs l s := by
      unfold vst
      rw [List.take_left]
      congr 1
      simp [List.getD]
    rw [e]; exact k
theorem VL.val {l : List ByteArray} (h : VL l) (h1 : 1 ≤ l.length) (h2 : l.length ≤ 200) : val l = 0 := val_ok (by omega) h
theorem last_snoc (l : List ByteArray) (s : ByteArray) : (l ++ [s]).getD ((l ++ [s]).length - 1) emp = s := by simp [List.getD]
theorem cmpS_txt {p q : List Nat} (hp : Pts p) (hq : Pts q) : cmpS (txt p) (txt q) = cmpL p q := by unfold cmpS; rw [PO_of_P (P_txt hp), PO_of_P (P_txt hq)]
/-- a code that follows the last one, its parent before it -/
theorem vs_more {l : List ByteArray} {a p : List Nat} (hp : Pts p) (ha : Pts a) (hl : 0 < l.length → l.getD (l.length - 1) emp = txt a) (hc : 0 < l.length → cmpL a p < 0) (hpar : p.length = 1 ∨ txt p.dropLast ∈ l) : vs l (txt p) = 0 := by
  refine vs_ok (P_txt hp) ?_ ?_
  · rintro ⟨h1, h2⟩
    rw [hl h1, cmpS_txt ha hp] at h2
    have := hc h1
    omega
  · rintro ⟨h1, h2⟩
    have hx : (par (txt p)).1 = txt p.dropLast := by unfold par; rw [P_txt hp]
    rw [hx] at h1 h2
    rcases hpar with h | h
    · have : p.dropLast = [] := by
        apply List.eq_nil_of_length_eq_zero
        rw [List.length_dropLast]; omega
      rw [this, txt_nil, ByteArray.toList_eq] at h1
      cases h1
    · rw [(Lib.containsS_iff l (txt p.dropLast)).2 h] at h2
      cases h2

/-- what Tree keeps while it builds -/
def St (w wr : World) (B : Nat) (ao : Option Addr) (tn cap g gr : Nat) (nm : ByteArray) (j : Nat) (v : Value) (l : List ByteArray) : Prop :=
  Tap wr B ao tn cap j ∧ Bxn wr g nm v ∧ Bxn wr gr ⟨#[]⟩ (.slice none 0 0) ∧ wr.ownsRow (g + 1) 9 1 v l.length (strs l) ∧ w.grownBy wr (some B) ∧ g < wr.heap.size
theorem St.below {w wr w' : World} {B : Nat} {ao : Option Addr} {tn cap g gr : Nat} {nm : ByteArray} {j : Nat} {v : Value} {l : List ByteArray} (h : St w wr B ao tn cap g gr nm j v l) (b : Below wr.heap.size wr w') : St w w' B ao tn cap g gr nm j v l :=
  ⟨h.1.keep b, h.2.1.below b, h.2.2.1.below b, own_below h.2.2.2.1 b, gb_trans h.2.2.2.2.1 (below_gb b _), Nat.lt_of_lt_of_le h.2.2.2.2.2 b.size⟩
theorem St.next {w wr w' : World} {B : Nat} {ao : Option Addr} {tn cap g gr : Nat} {nm : ByteArray} {j j' : Nat} {v : Value} {l : List ByteArray} (h : St w wr B ao tn cap g gr nm j v l) (k : wr.grownBy w' (some B)) (t : Tap w' B ao tn cap j') (h1 : B < gr) (h2 : gr < g) : St w w' B ao tn cap g gr nm j' v l :=
  ⟨t, h.2.1.grown k (fun e => by have := Option.some.inj e; omega), h.2.2.1.grown k (fun e => by have := Option.some.inj e; omega), h.2.2.2.1.kept k (row_block h.2.2.2.1 (by omega)), gb_trans h.2.2.2.2.1 k, Nat.lt_of_lt_of_le h.2.2.2.2.2 k.size⟩
/-- behind an append of a string to the list in the box -/
theorem St.push {w w2 w3 : World} {B : Nat} {ao : Option Addr} {tn cap g gr : Nat} {nm : ByteArray} {j : Nat} {v : Value} {l : List ByteArray} {s : ByteArray} {a3 : Option Addr} {c3 : Nat} (h : St w w2 B ao tn cap g gr nm j v l)
    (hown : w3.ownsRow (g + 1) 9 1 (.slice a3 (l.length + 1) c3) (l.length + 1) (strs l ++ [.string s])) (hg : (w2.alloc (.cells #[.string s] 9)).grownBy w3 v.ownBlock) (h1 : B < gr) (h2 : gr < g) (hwg : w.heap.size ≤ g) :
    Bxn w3 g nm v ∧ St w (w3.setCell ⟨g, 1, none⟩ (.slice a3 (l.length + 1) c3)) B ao tn cap g gr nm j (.slice a3 (l.length + 1) c3) (l ++ [s]) := by
  have hrows : ∀ k, v.ownBlock = some k → g + 1 ≤ k := fun k e => (h.2.2.2.1.lt k e).1
  have hne : ∀ b, b ≤ g → some b ≠ v.ownBlock := fun b hb e => by have := hrows b e.symm; omega
  have ha := h.below (below_new w2 (.cells #[.string s] 9))
  have hx3 := ha.2.1.grown hg (hne g (Nat.le_refl _))
  have hr3 := ha.2.2.1.grown hg (hne gr (Nat.le_of_lt h2))
  have ht3 := ha.1.grown hg (hne B (by omega))
  refine ⟨hx3, ht3.grown (gb_set w3 g 1 _) (fun e => by have := Option.some.inj e; omega), hx3.set _, hr3.grown (gb_set w3 g 1 _) (fun e => by have := Option.some.inj e; omega), ?_, ?_, ?_⟩
  · rw [List.length_append, List.length_singleton, show strs (l ++ [s]) = strs l ++ [.string s] by simp [strs]]
    exact hown.kept (gb_set _ _ _ _) (row_block hown (by omega))
  · have h3 : w.grownBy w3 (some B) := gb_app h.2.2.2.2.1 hg (fun b hb => hne b (by omega))
    refine ⟨h3.os, h3.tape, h3.output, by simpa using h3.size, fun b hb hn => ?_⟩
    rw [Below.heap_setCell _ _ _ _ (by show b ≠ g; omega)]
    exact h3.block b hb hn
  · exact hx3.lt |> fun q => by simpa using q
end Go.Proofs.YtkodfmpaeemaiaaDoor.C6
