import Derived.Test.YtpoipkjchnopbaaPrdN
import Derived.Test.YtpoipkjchnopbaaSsaT
import Derived.ArgAppend
/- Layer 9: names sorted and compacted in place; appends onto nothing and of nothing. -/
namespace Go.Proofs.Ytpoipkjchnopbaa.P9
open Go.RowKit Go.Sort C6

def encL (l : List ByteArray) : List (List UInt8) := l.map (fun s => s.data.toList)
theorem strs_enc (l : List ByteArray) : strs l = (encL l).map encStr := by
  simp [strs, encL]
theorem grow_none (w : World) : grow w #[] = w := by cases w; simp [grow]
theorem own_cut {w : World} {base n : Nat} {e : TypeId} {g cap : Nat} {xs : List Value} (h : w.ownsRow base e 1 (.slice (some ⟨g, 0, none⟩) n cap) n xs) {k : Nat} (hk : k ≤ n) : w.ownsRow base e 1 (.slice (some ⟨g, 0, none⟩) k cap) k (xs.take k) := by
  have hlen : xs.length = n := by have := h.1; omega
  rcases h.2 with ⟨e, _⟩ | ⟨g', cap', cur, e, hb, hg, hn, hc, hs, ht⟩
  · cases e
  · cases e
    refine ⟨by rw [List.length_take]; omega, .inr ⟨g, cap, cur, rfl, hb, hg, by omega, hc, hs, ?_⟩⟩
    rw [← ht, List.take_take]
    congr 1
    omega

theorem sortN_v {base n c : Nat} {a : Option Addr} {ss : List (List UInt8)} (w : World) (h : w.ownsRow base 9 1 (.slice a n c) n (ss.map encStr)) (hn : n ≤ 100000) :
    Calls Try.prog 29 #[.slice a n c] w fun e w' => e = .returned (.tuple #[]) ∧ w'.ownsRow base 9 1 (.slice a n c) n ((ss.mergeSort fun x y => decide (x ≤ y)).map encStr) ∧ w.grownBy w' (Value.ownBlock (.slice a n c)) := by
  have hlen : ss.length = n := by have := h.1; simp at this; omega
  rcases h.2 with ⟨e, h0⟩ | ⟨g, cap, cur, e, hb, hg, hnc, hc, hs, ht⟩
  · cases e
    refine (Try.slices_Sort_string_none none 0 w).mono ?_
    rintro e w' ⟨rfl, rfl⟩
    obtain rfl : ss = [] := List.eq_nil_of_length_eq_zero hlen
    exact ⟨rfl, by simpa using h, ⟨rfl, rfl, rfl, Nat.le_refl _, fun _ _ _ => rfl⟩⟩
  · cases e
    have hH : Holds encStr w g 0 ss.toArray := holds_of_block hg (by rw [hlen]; simpa using ht)
    have hc1 := Try.slices_Sort_string g 0 c ss w hH (Array.getElem?_eq_some_iff.1 hg).1 (by omega)
    rw [hlen] at hc1
    refine hc1.mono ?_
    rintro e w' ⟨rfl, q, os, rfl⟩
    have r := ownsRow_sorted (n := q) (os := os) (ss := ss) (ts := ss.mergeSort fun x y => decide (x ≤ y)) (by simp) hb hg (by omega) hc (by omega)
    rw [hlen] at r
    exact ⟨rfl, r, grownBy_sorted _⟩

theorem compactN_v {base n c : Nat} {a : Option Addr} {ss : List (List UInt8)} (w : World) (h : w.ownsRow base 9 1 (.slice a n c) n (ss.map encStr)) (hn : n ≤ 100000) :
    Calls Try.prog 30 #[.slice a n c] w fun e w' => ∃ k, e = .returned (.slice a k c) ∧ k = (Lib.compact ss).length ∧ k ≤ n ∧ w'.ownsRow base 9 1 (.slice a k c) k ((Lib.compact ss).map encStr) ∧ w.grownBy w' (Value.ownBlock (.slice a n c)) := by
  have hlen : ss.length = n := by have := h.1; simp at this; omega
  rcases h.2 with ⟨e, h0⟩ | ⟨g, cap, cur, e, hb, hg, hnc, hc, hs, ht⟩
  · cases e
    refine (Try.slices_Compact_string_empty none 0 w).mono ?_
    rintro e w' ⟨rfl, rfl⟩
    obtain rfl : ss = [] := List.eq_nil_of_length_eq_zero hlen
    exact ⟨0, rfl, rfl, by omega, World.ownsRow_nil _ _ _ _, ⟨rfl, rfl, rfl, Nat.le_refl _, fun _ _ _ => rfl⟩⟩
  · cases e
    have hle := Lib.compact_length_le ss
    have hH : Holds encStr w g 0 ss.toArray := holds_of_block hg (by rw [hlen]; simpa using ht)
    have hc1 := Try.slices_Compact_string g 0 c ss w hH (by omega) (by omega)
    rw [hlen] at hc1
    refine hc1.mono ?_
    rintro e w' ⟨rfl, q, rfl⟩
    have hts : (Lib.compact ss ++ List.replicate (ss.length - (Lib.compact ss).length) []).length = ss.length := by rw [List.length_append, List.length_replicate]; omega
    have r := ownsRow_sorted (n := q) (os := #[]) (ss := ss) (ts := Lib.compact ss ++ List.replicate (ss.length - (Lib.compact ss).length) []) hts hb hg (by omega) hc (by omega)
    have gg := grownBy_sorted (w := w) (g := g) (n := q) (os := #[]) (Lib.compact ss ++ List.replicate (ss.length - (Lib.compact ss).length) []).toArray
    rw [grow_none] at r gg
    rw [hlen] at r gg
    have r2 := own_cut r (k := (Lib.compact ss).length) (by omega)
    rw [List.map_append, List.take_left' (by simp)] at r2
    exact ⟨_, rfl, rfl, by omega, r2, gg⟩

theorem wp_append_none {P : Program} {o : Oper} {a : Act} {w : World} {K : Act → World → Prop} {Q : Exit → Act → World → Prop} (s x : Operand) (t : TypeId)
    (ho : o.op = .call { callee := .builtin .append, args := #[s, x], argTypes := #[t, t] })
    (e : TypeId) (i : TypeInfo) (ht : P.underlying t = some (.slice e)) (hi : P.info? e = some i)
    (b : Option Addr) (n cap : Nat) (hle : n ≤ cap) (hs : a.eval s = .slice b n cap) (hx : a.eval x = .slice none 0 0)
    (h : K (a.put o.dst (.slice b n cap)) w) : Oper.wp P o a w K Q := by
  have hrun : (Builtin.append_ #[t, t] o.type #[.slice b n cap, .slice none 0 0]).run P w = .ok (.slice b n cap) w := by
    cases b <;> simp [Builtin.append_, run_underlying ht, sizeOf, typeInfo, hi, Builtin.lenOf, hle, Builtin.firstCells, storeCells]
  unfold Oper.wp
  simp [execOp, ho, resolve, invoke, builtin, hs, hx, hrun, Result.andThen]
  exact h
end Go.Proofs.Ytpoipkjchnopbaa.P9
