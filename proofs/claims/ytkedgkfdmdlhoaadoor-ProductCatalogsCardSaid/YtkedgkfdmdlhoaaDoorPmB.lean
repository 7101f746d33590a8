import Derived.Test.YtkedgkfdmdlhoaaDoorPmA
import Derived.Test.YtkedgkfdmdlhoaaDoorPrd8
/- Layer 9: the law's articles are valid, and their numbers ascend. -/
namespace Go.Proofs.YtkedgkfdmdlhoaaDoor.P9
open Go.RowKit Go.Sort C6

theorem cd_lev {s : ByteArray} (h : s = cd1 ∨ s = cd2) : ¬ lev s < 1 := by
  have h1 : cd1 = txt [1, 1] := by decide
  have h2 : cd2 = txt [1, 2] := by decide
  have p1 : Pts [1, 1] := ⟨by decide, by decide, fun n hn => by simp at hn; omega⟩
  have p2 : Pts [1, 2] := ⟨by decide, by decide, fun n hn => by simp at hn; omega⟩
  rcases h with rfl | rfl
  · exact lev_some (by rw [h1, P_txt p1]; rfl)
  · exact lev_some (by rw [h2, P_txt p2]; rfl)
theorem item_vA {ca cb : ByteArray} (hx : VPw ca) (hy : VCo cb) {l : List Atr} (hl : l = [(pwr, ca), (clr, cb)] ∨ l = [(clr, cb), (pwr, ca)]) : vA l = true := by
  have n1 : nm pwr.data.toList = true := by decide
  have n2 : nm clr.data.toList = true := by decide
  have n3 : nm ca.data.toList = true := by rcases hx with h | h | h | h <;> rw [h] <;> decide
  have n4 : nm cb.data.toList = true := by rcases hy with h | h | h <;> rw [h] <;> decide
  have ne : clr ≠ pwr := by decide
  have i0 : ∀ x, inS x [] = false := fun x => inS_neg (by simp)
  have i1 : inS clr [pwr] = false := inS_neg (by simp [ne])
  have i2 : inS pwr [clr] = false := inS_neg (by simp [Ne.symm ne])
  rcases hl with rfl | rfl
  · simp [vA, vAt, okA, List.getD, n1, n2, n3, n4, i0, i1]
  · simp [vA, vAt, okA, List.getD, n1, n2, n3, n4, i0, i2]
theorem item_ok {k : Nat} {p : Pd} {ca cb : ByteArray} {l : List Atr} (hp : ITM k p) (hx : VPw ca) (hy : VCo cb) (hl : l = [(pwr, ca), (clr, cb)] ∨ l = [(clr, cb), (pwr, ca)]) : perr p l = 0 := by
  obtain ⟨h1, h2, h3, h4, h5, q, h6, h7, h8⟩ := hp
  have v1 : vid p.id.data.toList = true := by rw [h1]; exact idL_valid k
  have v2 := cd_lev h2
  have v3 : nm p.br.data.toList = true := by rw [h3]; decide
  have v4 : qwhy p.d p.c p.a = 0 := by
    rw [h4, h5, h6]
    exact qwhy_zero.2 ⟨by decide, by decide, by decide, by decide, by omega, by omega⟩
  have v5 := item_vA hx hy hl
  unfold perr
  rw [v1, v3, v4, v5, if_neg (by decide), if_neg v2, if_neg (by decide), if_neg (by decide), if_neg (by decide)]
theorem item_sz2 {k : Nat} {q : Pd} {x y : ByteArray} {m : List Atr} (hq : ITM k q) (hx : VPw x) (hy : VCo y) (hm : m = [(pwr, x), (clr, y)] ∨ m = [(clr, y), (pwr, x)]) : Sz q m := by
  refine ⟨by rcases hq.2.1 with h | h <;> rw [h] <;> decide, by rw [hq.2.2.1]; decide, fun z hz => ?_, ?_, ?_⟩
  · have a1 : pwr.size ≤ 100 := by decide
    have a2 : clr.size ≤ 100 := by decide
    have a3 : x.size ≤ 100 := by rcases hx with h | h | h | h <;> rw [h] <;> decide
    have a4 : y.size ≤ 100 := by rcases hy with h | h | h <;> rw [h] <;> decide
    rcases hm with rfl | rfl <;> simp at hz <;> rcases hz with rfl | rfl <;> exact ⟨by assumption, by assumption⟩
  · have h : (idB k).size = 8 := by show (idL k).toArray.size = 8; rw [List.size_toArray, idL_length]
    rw [hq.1]; omega
  · obtain ⟨_, _, _, h1, h2, t, h3, h4, h5⟩ := hq
    rw [h1, h2, h3]
    exact ⟨by decide, by decide, by decide, by decide, by omega, by omega⟩
set_option maxRecDepth 100000 in
theorem id_up : ∀ k, k < 201 → leS (idB (k + 1)) (idB k) = false := by
  have h : (List.range 201).all (fun k => !leS (idB (k + 1)) (idB k)) = true := by kernel_rfl
  intro k hk
  have := List.all_eq_true.1 h k (List.mem_range.2 hk)
  simpa using this
/-- a list of the law's articles: the i-th is the i-th of the catalog -/
def Itms (us : List It) : Prop := ∀ i, i < us.length → (us.getD i It.zero).p.id = idB i ∧ perr (us.getD i It.zero).p (us.getD i It.zero).l = 0
theorem Itms.cE {us : List It} (h : Itms us) (hn : us.length ≤ 202) : ∀ m i, i + m = us.length → P9.cE us m i = 0 := by
  intro m
  induction m with
  | zero => intro i _; rfl
  | succ m ih =>
    intro i hi
    have h1 := h i (by omega)
    show (if perr (us.getD i It.zero).p (us.getD i It.zero).l ≠ 0 then perr (us.getD i It.zero).p (us.getD i It.zero).l else if 0 < i ∧ leS (us.getD i It.zero).p.id (us.getD (i - 1) It.zero).p.id = true then 96 else P9.cE us m (i + 1)) = 0
    rw [h1.2, if_neg (by decide), if_neg ?_]
    · exact ih (i + 1) (by omega)
    · rintro ⟨h2, h3⟩
      obtain ⟨j, rfl⟩ : ∃ j, i = j + 1 := ⟨i - 1, by omega⟩
      have h4 := h j (by omega)
      rw [Nat.add_sub_cancel, h1.1, h4.1, id_up j (by omega)] at h3
      cases h3
theorem Itms.cerr {us : List It} (h : Itms us) (hn : us.length ≤ 202) : P9.cerr us = if 200 < us.length then 95 else 0 := by
  unfold P9.cerr
  split
  · rfl
  · exact h.cE hn _ 0 (by omega)
end Go.Proofs.YtkedgkfdmdlhoaaDoor.P9
