import Derived.Test.YtkedgkfdmdlhoaaDoorPrd3
import Derived.Deep.RegionLaw
import Derived.Deep.CutRange
/- Layer 9: the reference's Sorted and Normalize. -/
namespace Go.Proofs.YtkedgkfdmdlhoaaDoor.P9
open Go.RowKit Go.Sort C6

theorem less_iff (a b : ByteArray) : Op.bytesLess a.toList b.toList = decide (a.data.toList < b.data.toList) := by
  rw [Go.Proofs.bytesLess_eq, ByteArray.toList_eq, ByteArray.toList_eq]
theorem less_lss (x y : Atr) : Op.bytesLess x.1.toList y.1.toList = lss x y := less_iff _ _
theorem own_at {w : World} {base n : Nat} {t : TypeId} {g cap : Nat} {l : List Atr} (h : w.ownsRow base t 2 (.slice (some ⟨g, 0, none⟩) n cap) n (atv l)) {i : Nat} (hi : i < n) : At2 w g (i * 2) (l.getD i e2) := by
  have hlen : l.length = n := by have := h.1; rw [atv_length] at this; omega
  obtain ⟨a0, a1⟩ := atv_at l i (by omega)
  exact ⟨by rw [h.cellAt (i * 2) (by omega), a0], by rw [h.cellAt (i * 2 + 1) (by omega), a1]⟩
theorem drewN_below' {B : Nat} {w w2 : World} (h : Below B w w2) (n : Nat) : Below B w (w2.drewN n) := h.trans ⟨rfl, rfl, rfl, Nat.le_refl _, fun _ _ => rfl⟩
theorem ba_ext' {a b : ByteArray} (h : a.data.toList = b.data.toList) : a = b := C6.ba_ext h
theorem own_front {w : World} {base n : Nat} {t : TypeId} {g cap : Nat} {l : List Atr} (h : w.ownsRow base t 2 (.slice (some ⟨g, 0, none⟩) n cap) n (atv l)) {k : Nat} (hk : k ≤ n) : w.ownsRow base t 2 (.slice (some ⟨g, 0, none⟩) k cap) k (atv (l.take k)) := by
  have hlen : l.length = n := by have := h.1; rw [atv_length] at this; omega
  rcases h.2 with ⟨e, _⟩ | ⟨g', cap', cur, e, hb, hg, hn, hc, hs, ht⟩
  · cases e
  · cases e
    refine ⟨by rw [atv_length, List.length_take]; omega, .inr ⟨g, cap, cur, rfl, hb, hg, by omega, hc, hs, ?_⟩⟩
    have e1 : cur.toList.take (k * 2) = (cur.toList.take (n * 2)).take (k * 2) := by rw [List.take_take, Nat.min_eq_left (by omega)]
    rw [e1, ht]
    have : l = l.take k ++ l.drop k := (List.take_append_drop k l).symm
    conv => lhs; rw [this]
    rw [atv_append]
    exact List.take_left' (by rw [atv_length, List.length_take]; omega)
theorem own_back {w : World} {base n : Nat} {t : TypeId} {g cap : Nat} {l : List Atr} (h : w.ownsRow base t 2 (.slice (some ⟨g, 0, none⟩) n cap) n (atv l)) {k : Nat} (hk : k ≤ n) : ∀ j u, (atv (l.drop k))[j]? = some u → w.cell? ((⟨g, k * 2, none⟩ : Addr).add j) = some u := by
  intro j u hj
  have hlen : l.length = n := by have := h.1; rw [atv_length] at this; omega
  have hl := (List.getElem?_eq_some_iff.1 hj).1
  rw [atv_length, List.length_drop] at hl
  rw [Addr.add_lit, h.cellAt _ (by omega)]
  have : l = l.take k ++ l.drop k := (List.take_append_drop k l).symm
  rw [this, atv_append, List.getElem?_append_right (by rw [atv_length, List.length_take]; omega), atv_length, List.length_take, Nat.min_eq_left (by omega), show k * 2 + j - k * 2 = j by omega]
  exact hj

theorem row_form {w : World} {base n size : Nat} {e : TypeId} {a : Option Addr} {c : Nat} {xs : List Value} (h : w.ownsRow base e size (.slice a n c) n xs) (hn : 0 < n) : ∃ g, a = some ⟨g, 0, none⟩ ∧ g < w.heap.size ∧ base ≤ g ∧ ∀ j u, xs[j]? = some u → w.cell? ((⟨g, 0, none⟩ : Addr).add j) = some u := by
  rcases h.2 with ⟨e, h0⟩ | ⟨g, cap', cur, e, _⟩
  · omega
  · cases e
    exact ⟨g, rfl, (h.lt g rfl).2, (h.lt g rfl).1, h.cells rfl⟩
theorem step_append_own {P : Program} {ops : Array Oper} {o : Oper} {a : Act} {w : World} {K : Act → World → Prop} {Q : Exit → Act → World → Prop} {E : Prop} (hg : o.guard = none) (s x : Operand) (t : TypeId)
    (ho : o.op = .call { callee := .builtin .append, args := #[s, x], argTypes := #[t, t] })
    (base : Nat) (e : TypeId) (i : TypeInfo) (z : Value) (size bytes : Nat) (ht : P.underlying t = some (.slice e)) (hi : P.info? e = some i) (hz : i.zero = some z)
    (hsize : i.size = size) (hby : i.bytes = bytes) (hzs : z.cells.size = size) (hsz : 0 < size)
    (v : Value) (n : Nat) (xs : List Value) (hs : a.eval s = v) (hown : w.ownsRow base e size v n xs)
    (ad : Addr) (m c : Nat) (news : List Value) (hx : a.eval x = .slice (some ad) m c) (hl : news.length = m * size) (hnews : ∀ j u, news[j]? = some u → w.cell? (ad.add j) = some u) (h1 : ∀ u ∈ news, u.oneCell' = true)
    (h63 : n + m ≤ maxLen) (hbytes : (n + m) * bytes ≤ 140737488355328) (hbase : base ≤ w.heap.size)
    (h : ∀ v' w', w'.ownsRow base e size v' (n + m) (xs ++ news) → w.grownBy w' v.ownBlock → (v' = .slice none 0 0 ↔ v = .slice none 0 0 ∧ m = 0) → K (a.put o.dst v') w') :
    if Region.wanted o (yielded ops a.tmps) = true then Oper.wp P o a w K Q else E := by
  rw [if_pos (by simp [Region.wanted, hg])]
  exact wp_append_own w s x t ho base e i z size bytes ht hi hz hsize hby hzs hsz v n xs hs hown ad m c news hx hl hnews h1 h63 hbytes hbase h

end Go.Proofs.YtkedgkfdmdlhoaaDoor.P9
