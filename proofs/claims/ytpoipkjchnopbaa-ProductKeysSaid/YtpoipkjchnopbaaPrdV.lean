import Derived.Test.YtpoipkjchnopbaaPrdU
import Derived.Test.YtpoipkjchnopbaaPrd5
import Derived.Test.YtpoipkjchnopbaaPrd8
/- Layer 9: keys and differences of the tape's articles: the algebra of ProductKeys. -/
namespace Go.Proofs.Ytpoipkjchnopbaa.P9
open Go.RowKit Go.Sort C6

theorem dd_nil {l : List (List UInt8)} : dd l = [] ↔ l = [] := by
  constructor
  · intro h
    cases hl : l.length with
    | zero => exact List.eq_nil_of_length_eq_zero hl
    | succ k =>
      have := dd_last l k (by omega)
      rw [show k + 1 = l.length by omega, List.take_length, h] at this
      cases this
  · rintro rfl; rfl
theorem odd_nil {l o : List Atr} : odd l o = [] ↔ ∀ x ∈ l, x ∈ o := by
  unfold odd
  rw [List.filter_eq_nil_iff]
  constructor
  · intro h x hx
    have := h x hx
    by_cases hi : x ∈ o
    · exact hi
    · rw [inB_neg hi] at this; simp at this
  · intro h x hx
    rw [inB_pos (h x hx)]
    simp
theorem dnm_nil {l o : List Atr} : dnm l o = [] ↔ (∀ x ∈ l, x ∈ o) ∧ ∀ x ∈ o, x ∈ l := by
  rw [dnm_dd, dd_nil, List.map_eq_nil_iff, ← odd_nil, ← odd_nil]
  constructor
  · intro h
    have : (odd l o ++ odd o l).length = 0 := by rw [← isort_length, h]; rfl
    rw [List.length_append] at this
    exact ⟨List.eq_nil_of_length_eq_zero (by omega), List.eq_nil_of_length_eq_zero (by omega)⟩
  · rintro ⟨h1, h2⟩
    rw [h1, h2]
    rfl
/-- the attributes of an article, in one order or the other -/
def ItL (ca cb : ByteArray) (l : List Atr) : Prop := l = [(pwr, ca), (clr, cb)] ∨ l = [(clr, cb), (pwr, ca)]
theorem ItL.mem {ca cb : ByteArray} {l : List Atr} (h : ItL ca cb l) (x : Atr) : x ∈ l ↔ x = (pwr, ca) ∨ x = (clr, cb) := by
  rcases h with rfl | rfl
  · simp
  · simp; exact ⟨fun h => h.symm, fun h => h.symm⟩
theorem pwr_clr : pwr ≠ clr := by
  intro h
  have := congrArg (fun b => b.data.size) h
  exact absurd this (by decide)
theorem ItL.dnm {ca cb ca' cb' : ByteArray} {l l' : List Atr} (h : ItL ca cb l) (h' : ItL ca' cb' l') : dnm l l' = [] ↔ ca = ca' ∧ cb = cb' := by
  rw [dnm_nil]
  constructor
  · rintro ⟨h1, _⟩
    have a := (h'.mem _).1 (h1 (pwr, ca) ((h.mem _).2 (.inl rfl)))
    have b := (h'.mem _).1 (h1 (clr, cb) ((h.mem _).2 (.inr rfl)))
    simp only [Prod.mk.injEq] at a b
    refine ⟨?_, ?_⟩
    · rcases a with a | a
      · exact a.2
      · exact absurd a.1 pwr_clr
    · rcases b with b | b
      · exact absurd b.1.symm pwr_clr
      · exact b.2
  · rintro ⟨rfl, rfl⟩
    exact ⟨fun x hx => (h'.mem x).2 ((h.mem x).1 hx), fun x hx => (h.mem x).2 ((h'.mem x).1 hx)⟩
theorem ItL.isort {ca cb : ByteArray} {l : List Atr} (h : ItL ca cb l) : isort l = [(clr, cb), (pwr, ca)] := by
  have e1 : lss (pwr, ca) (clr, cb) = false := by
    show decide (([112, 111, 119, 101, 114] : List UInt8) < [99, 111, 108, 111, 117, 114]) = false
    decide
  have e2 : lss (clr, cb) (pwr, ca) = true := by
    show decide (([99, 111, 108, 111, 117, 114] : List UInt8) < [112, 111, 119, 101, 114]) = true
    decide
  rcases h with rfl | rfl
  · simp [P9.isort, insA, pos, e2]
  · simp [P9.isort, insA, pos, e1]

def coF (i : Fin 2) : ByteArray := match i with | 0 => cd1 | 1 => cd2
def paF (i : Fin 4) : ByteArray := match i with | 0 => va1 | 1 => va2 | 2 => va3 | 3 => va4
def cbF (i : Fin 3) : ByteArray := match i with | 0 => vb1 | 1 => vb2 | 2 => vb3
def kF (a : Fin 2) (b : Fin 3) (c : Fin 4) : List UInt8 := keyL (coF a).data.toList acm.data.toList [(clr, cbF b), (pwr, paF c)]
theorem kF_inj : ∀ (a a' : Fin 2) (b b' : Fin 3) (c c' : Fin 4), kF a b c = kF a' b' c' → a = a' ∧ b = b' ∧ c = c' := by decide +kernel
theorem co_ix {x : ByteArray} (h : x = cd1 ∨ x = cd2) : ∃ i, x = coF i := by
  rcases h with rfl | rfl
  · exact ⟨0, rfl⟩
  · exact ⟨1, rfl⟩
theorem pa_ix {x : ByteArray} (h : VPw x) : ∃ i, x = paF i := by
  rcases h with rfl | rfl | rfl | rfl
  · exact ⟨0, rfl⟩
  · exact ⟨1, rfl⟩
  · exact ⟨2, rfl⟩
  · exact ⟨3, rfl⟩
theorem cb_ix {x : ByteArray} (h : VCo x) : ∃ i, x = cbF i := by
  rcases h with rfl | rfl | rfl
  · exact ⟨0, rfl⟩
  · exact ⟨1, rfl⟩
  · exact ⟨2, rfl⟩
/-- two articles have one key just if their codes and their attributes agree -/
theorem key_item {k k' : Nat} {p p' : Pd} {ca cb ca' cb' : ByteArray} {l l' : List Atr} (hp : ITM k p) (hp' : ITM k' p') (h1 : VPw ca) (h2 : VCo cb) (h1' : VPw ca') (h2' : VCo cb') (h : ItL ca cb l) (h' : ItL ca' cb' l') :
    keyB p l = keyB p' l' ↔ p.co = p'.co ∧ dnm l l' = [] := by
  rw [h.dnm h']
  unfold keyB
  rw [h.isort, h'.isort, hp.2.2.1, hp'.2.2.1]
  obtain ⟨a, ha⟩ := co_ix hp.2.1
  obtain ⟨a', ha'⟩ := co_ix hp'.2.1
  obtain ⟨b, rfl⟩ := cb_ix h2
  obtain ⟨b', rfl⟩ := cb_ix h2'
  obtain ⟨c, rfl⟩ := pa_ix h1
  obtain ⟨c', rfl⟩ := pa_ix h1'
  rw [ha, ha']
  constructor
  · intro e
    have e' : kF a b c = kF a' b' c' := by
      have := congrArg (fun x => x.data.toList) e
      unfold kF
      simpa using this
    obtain ⟨rfl, rfl, rfl⟩ := kF_inj _ _ _ _ _ _ e'
    exact ⟨rfl, rfl, rfl⟩
  · rintro ⟨e1, e2, e3⟩
    rw [e1, e2, e3]
/-- the order of the attributes, the ID and the size are nothing to the key -/
theorem key_same {p p' : Pd} {ca cb : ByteArray} {l l' : List Atr} (hc : p.co = p'.co) (hb : p.br = p'.br) (h : ItL ca cb l) (h' : ItL ca cb l') : keyB p l = keyB p' l' := by
  unfold keyB
  rw [h.isort, h'.isort, hc, hb]
end Go.Proofs.Ytpoipkjchnopbaa.P9
