import Derived.Test.YtkedgkfdmdlhoaaDoorCls0
/- Reading a code digit by digit, in plain lists. -/
namespace Go.Proofs.YtkedgkfdmdlhoaaDoor.C6
open Go.RowKit

/-- the value of the first j digits -/
def vl (t : List UInt8) : Nat → Nat
  | 0 => 0
  | 1 => (t.getD 0 0).toNat - 48
  | _ => 10 * ((t.getD 0 0).toNat - 48) + ((t.getD 1 0).toNat - 48)
theorem vl_one (a : UInt8) (t : List UInt8) : a.toNat - 48 = vl (a :: t) 1 := rfl
theorem vl_two (a b : UInt8) (t : List UInt8) : 10 * (a.toNat - 48) + (b.toNat - 48) = vl (a :: b :: t) 2 := rfl
theorem vl_step (t : List UInt8) (j : Nat) (h : j < 2) : vl t (j + 1) = 10 * vl t j + ((t.getD j 0).toNat - 48) := by
  have : j = 0 ∨ j = 1 := by omega
  rcases this with rfl | rfl
  · show (t.getD 0 0).toNat - 48 = 10 * 0 + ((t.getD 0 0).toNat - 48)
    generalize (t.getD 0 0).toNat = x
    omega
  · rfl
theorem lead_facts {t : List UInt8} {n c : Nat} (h : lead t = (n, c)) : c ≤ 2 ∧ n = vl t c ∧ (∀ j, j < c → ∃ b, t[j]? = some b ∧ 48 ≤ b.toNat ∧ b.toNat ≤ 57) ∧ (c < 2 → t[c]? = none ∨ ∃ b, t[c]? = some b ∧ (b.toNat < 48 ∨ 57 < b.toNat)) := by
  have hd : ∀ b : UInt8, dgt b = true → 48 ≤ b.toNat ∧ b.toNat ≤ 57 := fun b hb => by unfold dgt at hb; simpa using hb
  have hn : ∀ b : UInt8, ¬ dgt b = true → b.toNat < 48 ∨ 57 < b.toNat := fun b hb => by unfold dgt at hb; simp at hb; omega
  unfold lead at h
  split at h
  · cases h
    exact ⟨by omega, rfl, fun j hj => by omega, fun _ => .inl rfl⟩
  · rename_i a t
    split at h
    · rename_i ha
      split at h
      · cases h
        refine ⟨by omega, vl_one _ _, fun j hj => ?_, fun _ => .inl rfl⟩
        obtain rfl : j = 0 := by omega
        exact ⟨a, rfl, hd a ha⟩
      · rename_i b t'
        split at h
        · rename_i hb
          cases h
          refine ⟨by omega, vl_two _ _ _, fun j hj => ?_, fun h => by omega⟩
          have : j = 0 ∨ j = 1 := by omega
          rcases this with rfl | rfl
          · exact ⟨a, rfl, hd a ha⟩
          · exact ⟨b, rfl, hd b hb⟩
        · rename_i hb
          cases h
          refine ⟨by omega, vl_one _ _, fun j hj => ?_, fun _ => .inr ⟨b, rfl, hn b hb⟩⟩
          obtain rfl : j = 0 := by omega
          exact ⟨a, rfl, hd a ha⟩
    · rename_i ha
      cases h
      exact ⟨by omega, rfl, fun j hj => by omega, fun _ => .inr ⟨a, rfl, hn a ha⟩⟩

theorem sh_head {m : Nat} (h : 1 ≤ m ∧ m ≤ 99) (r : List UInt8) : (sh m ++ r).head? ≠ some 48 := by
  intro e
  by_cases h10 : m < 10
  · rw [sh_one h10] at e
    simp at e
    have := congrArg UInt8.toNat e
    rw [dg_nat h10] at this
    have e2 : (48 : UInt8).toNat = 48 := rfl
    omega
  · rw [sh_two (by omega)] at e
    simp [tw] at e
    have := congrArg UInt8.toNat e
    rw [dg_nat (by omega)] at this
    have e2 : (48 : UInt8).toNat = 48 := rfl
    omega
/-- how far the reading has come -/
def Inv (l : List UInt8) (p : List Nat) (a : Nat) : Prop := a ≤ l.length ∧ Ns p ∧ p.length ≤ 5 ∧ ((p = [] ∧ a = 0) ∨ (p ≠ [] ∧ l.take a = cod p ++ [46]))
theorem Inv.start (l : List UInt8) : Inv l [] 0 := ⟨by omega, Ns.nil, by simp, .inl ⟨rfl, rfl⟩⟩
/-- what a code asks of the next digits -/
theorem Inv.need {l : List UInt8} {p : List Nat} {a n c : Nat} (h : Inv l p a) (hl : lead (l.drop a) = (n, c)) {q : List Nat} (hq : Pts q) (e : l = cod q) :
    c ≠ 0 ∧ n ≠ 0 ∧ (p = [] → c = 2) ∧ (p ≠ [] → (l.drop a).head? ≠ some 48) ∧ p.length < 5 ∧ ∃ ms, (l.drop a).drop c = rest ms := by
  obtain ⟨ha, hp, hp5, h0 | h1⟩ := h
  · obtain ⟨rfl, rfl⟩ := h0
    cases q with
    | nil => have := hq.1; simp at this
    | cons m ms =>
      have hm := hq.2.2.cons.1
      rw [List.drop_zero] at hl ⊢
      rw [e] at hl ⊢
      have := lead_tw (n := m) (by omega) (rest ms)
      simp only [cod] at hl ⊢
      rw [this] at hl
      cases hl
      exact ⟨by omega, by omega, fun _ => rfl, fun h => absurd rfl h, by simp, ms, rfl⟩
  · obtain ⟨hne, ht⟩ := h1
    have hl2 : cod p ++ 46 :: l.drop a = cod q := by
      rw [← e]
      have := List.take_append_drop a l
      rw [ht] at this
      simpa using this
    obtain ⟨cs, rfl, hc⟩ := cod_split (noD_pt _) hp hq.2.2 hne hl2
    cases cs with
    | nil => simp [rest] at hc
    | cons m ms =>
      simp only [rest, List.cons.injEq, true_and] at hc
      have hm := hq.2.2.right.cons.1
      rw [hc] at hl ⊢
      have := lead_sh (n := m) (by omega) (noD_rest ms)
      rw [this] at hl
      cases hl
      refine ⟨by have := (sh_len n).1; omega, by omega, fun h => absurd h hne, fun _ => sh_head hm _, by have := hq.2.1; simp at this; omega, ms, by rw [List.drop_left]⟩
/-- a part more -/
theorem Inv.more {l : List UInt8} {p : List Nat} {a n c : Nat} (h : Inv l p a) (hl : lead (l.drop a) = (n, c)) (hc : c ≠ 0) (hn : n ≠ 0) (h0 : p = [] → c = 2) (h1 : p ≠ [] → (l.drop a).head? ≠ some 48) (h5 : p.length < 5) :
    Pts (p ++ [n]) ∧ l.take (a + c) = cod (p ++ [n]) := by
  obtain ⟨ha, hp, hp5, h2 | h2⟩ := h
  · obtain ⟨rfl, rfl⟩ := h2
    obtain rfl := h0 rfl
    obtain ⟨e, hn2⟩ := lead_two hl
    rw [List.drop_zero] at e
    refine ⟨⟨by simp, by simp, Ns.mk ⟨by omega, by omega⟩ Ns.nil⟩, ?_⟩
    rw [e]
    simp [cod, rest, tw]
  · obtain ⟨hne, ht⟩ := h2
    obtain ⟨e, hcl, hn9⟩ := lead_later hl hc hn (h1 hne)
    refine ⟨⟨by simp, by rw [List.length_append]; simp; omega, hp.append (Ns.mk ⟨by omega, hn9⟩ Ns.nil)⟩, ?_⟩
    rw [cod_append _ hne, List.take_add, ht, e, hcl, List.take_left]
    simp [rest]
theorem Inv.next {l : List UInt8} {p : List Nat} {a : Nat} (hp : Pts p) (ht : l.take a = cod p) (hl : l[a]? = some 46) : Inv l p (a + 1) := by
  have hlt := (List.getElem?_eq_some_iff.1 hl).1
  refine ⟨hlt, hp.2.2, hp.2.1, .inr ⟨fun e => by have := hp.1; rw [e] at this; simp at this, ?_⟩⟩
  rw [List.take_add_one, ht, hl]
  rfl
theorem rest_head {ms : List Nat} {l : List UInt8} {a c : Nat} (h : (l.drop a).drop c = rest ms) (hlt : a + c < l.length) : l[a + c]? = some 46 := by
  have e : ((l.drop a).drop c)[0]? = l[a + c]? := by rw [List.drop_drop, List.getElem?_drop, Nat.add_zero]
  rw [← e, h]
  cases ms with
  | nil =>
    rw [h] at e
    rw [List.getElem?_eq_getElem hlt] at e
    simp [rest] at e
  | cons m ms => rfl
end Go.Proofs.YtkedgkfdmdlhoaaDoor.C6
