import Derived.Test.YtdcnkebcpaelpaaGreatDoorChecked
import Derived.WalkKit
import Derived.Lib.Hide
import Derived.Lib.Atoi
import Derived.Lib.SplitLaws
import Derived.Lib.LastIndexByte
import Derived.Lib.ItoaNum
/- Hierarchical codes in plain lists of bytes: the text of a list of parts, and reading it back. -/
namespace Go.Proofs.YtdcnkebcpaelpaaGreatDoor.C6
open Go.RowKit

/-- a digit, two digits, one or two digits -/
def dg (n : Nat) : UInt8 := UInt8.ofNat (48 + n)
def tw (n : Nat) : List UInt8 := [dg (n / 10), dg (n % 10)]
def sh (n : Nat) : List UInt8 := if n < 10 then [dg n] else tw n
/-- the later parts, each behind a point; a code -/
def rest : List Nat → List UInt8
  | [] => []
  | n :: ns => 46 :: (sh n ++ rest ns)
def cod : List Nat → List UInt8
  | [] => []
  | n :: ns => tw n ++ rest ns
def txt (p : List Nat) : ByteArray := ⟨(cod p).toArray⟩
/-- the parts of a code -/
def Ns (p : List Nat) : Prop := ∀ n ∈ p, 1 ≤ n ∧ n ≤ 99
def Pts (p : List Nat) : Prop := 1 ≤ p.length ∧ p.length ≤ 5 ∧ Ns p

theorem dg_nat {n : Nat} (h : n < 10) : (dg n).toNat = 48 + n := by unfold dg; rw [UInt8.toNat_ofNat']; omega
theorem sh_one {n : Nat} (h : n < 10) : sh n = [dg n] := if_pos h
theorem sh_two {n : Nat} (h : 10 ≤ n) : sh n = tw n := if_neg (by omega)
theorem Ns.cons {n : Nat} {p : List Nat} (h : Ns (n :: p)) : (1 ≤ n ∧ n ≤ 99) ∧ Ns p := ⟨h n (by simp), fun m hm => h m (by simp [hm])⟩
theorem Ns.mk {n : Nat} {p : List Nat} (h : 1 ≤ n ∧ n ≤ 99) (k : Ns p) : Ns (n :: p) := fun m hm => by
  rcases List.mem_cons.1 hm with rfl | h'
  · exact h
  · exact k m h'
theorem Ns.append {p q : List Nat} (h : Ns p) (k : Ns q) : Ns (p ++ q) := fun m hm => by
  rcases List.mem_append.1 hm with h' | h'
  · exact h m h'
  · exact k m h'
theorem Ns.left {p q : List Nat} (h : Ns (p ++ q)) : Ns p := fun m hm => h m (by simp [hm])
theorem Ns.right {p q : List Nat} (h : Ns (p ++ q)) : Ns q := fun m hm => h m (by simp [hm])
theorem Ns.take {p : List Nat} (h : Ns p) (k : Nat) : Ns (p.take k) := fun m hm => h m (List.mem_of_mem_take hm)
theorem Ns.nil : Ns [] := fun m hm => by simp at hm
theorem Pts.take {p : List Nat} (h : Pts p) {k : Nat} (hk : 1 ≤ k) : Pts (p.take k) := ⟨by rw [List.length_take]; have := h.1; omega, by rw [List.length_take]; have := h.2.1; omega, h.2.2.take k⟩

theorem rest_append (a b : List Nat) : rest (a ++ b) = rest a ++ rest b := by
  induction a with
  | nil => rfl
  | cons n a ih => simp [rest, ih]
theorem cod_append {a : List Nat} (b : List Nat) (h : a ≠ []) : cod (a ++ b) = cod a ++ rest b := by
  cases a with
  | nil => exact absurd rfl h
  | cons n a => simp [cod, rest_append]
theorem sh_len (n : Nat) : 1 ≤ (sh n).length ∧ (sh n).length ≤ 2 := by
  unfold sh; split <;> simp [tw]
theorem rest_len (p : List Nat) : (rest p).length ≤ 3 * p.length := by
  induction p with
  | nil => simp [rest]
  | cons n p ih => have := (sh_len n).2; simp only [rest, List.length_cons, List.length_append]; omega
theorem cod_len {p : List Nat} (h : Pts p) : 2 ≤ (cod p).length ∧ (cod p).length ≤ 14 := by
  cases p with
  | nil => have := h.1; simp at this
  | cons n p => have := rest_len p; have := h.2.1; simp [cod, tw] at *; omega
theorem txt_size (p : List Nat) : (txt p).size = (cod p).length := by simp [txt, ByteArray.size]
theorem txt_list (p : List Nat) : (txt p).data.toList = cod p := by simp [txt]
theorem ba_ext {a b : ByteArray} (h : a.data.toList = b.data.toList) : a = b := by
  apply ByteArray.ext
  exact Array.toList_inj.1 h

/-- a digit -/
def dgt (b : UInt8) : Bool := decide (48 ≤ b.toNat ∧ b.toNat ≤ 57)
theorem dgt_dg {n : Nat} (h : n < 10) : dgt (dg n) = true := by unfold dgt; rw [dg_nat h]; simp; omega
theorem dg_back {b : UInt8} (h : dgt b = true) : b = dg (b.toNat - 48) ∧ b.toNat - 48 < 10 := by
  unfold dgt at h
  simp at h
  refine ⟨?_, by omega⟩
  apply UInt8.toNat_inj.1
  rw [dg_nat (by omega)]; omega
/-- the number that the first digits spell, two at most, and how many these are -/
def lead : List UInt8 → Nat × Nat
  | [] => (0, 0)
  | a :: t => if dgt a = true then (match t with
    | [] => (a.toNat - 48, 1)
    | b :: _ => if dgt b = true then (10 * (a.toNat - 48) + (b.toNat - 48), 2) else (a.toNat - 48, 1)) else (0, 0)
theorem lead_tw {n : Nat} (h : n < 100) (r : List UInt8) : lead (tw n ++ r) = (n, 2) := by
  have h1 := dgt_dg (n := n / 10) (by omega)
  have h2 := dgt_dg (n := n % 10) (by omega)
  simp only [tw, List.cons_append, List.nil_append, lead, h1, h2, if_true]
  rw [dg_nat (by omega), dg_nat (by omega)]
  congr 1; omega
/-- no digit at the beginning -/
def NoD (r : List UInt8) : Prop := ∀ b t, r = b :: t → dgt b = false
theorem lead_sh {n : Nat} (h : n < 100) {r : List UInt8} (hr : NoD r) : lead (sh n ++ r) = (n, (sh n).length) := by
  by_cases hn : n < 10
  · rw [sh_one hn]
    have h1 := dgt_dg hn
    cases r with
    | nil => simp only [List.append_nil, lead, h1, if_true]; rw [dg_nat hn]; simp
    | cons b t =>
      have h2 := hr b t rfl
      simp only [List.cons_append, List.nil_append, lead, h1, h2, if_true, Bool.false_eq_true, if_false]; rw [dg_nat hn]; simp
  · rw [sh_two (by omega), lead_tw h]; rfl
theorem noD_rest (p : List Nat) : NoD (rest p) := by
  intro b t h
  cases p with
  | nil => cases h
  | cons n p => simp only [rest, List.cons.injEq] at h; rw [← h.1]; rfl
theorem noD_pt (r : List UInt8) : NoD (46 :: r) := by
  intro b t h
  simp only [List.cons.injEq] at h; rw [← h.1]; rfl
theorem noD_nil : NoD [] := by intro b t h; cases h
theorem noD_rest_append (p : List Nat) {r : List UInt8} (hr : NoD r) : NoD (rest p ++ r) := by
  cases p with
  | nil => exact hr
  | cons n p => exact noD_pt _

theorem rest_split {r : List UInt8} (hr : NoD r) : ∀ {a b : List Nat}, Ns a → Ns b → rest a ++ r = rest b → ∃ c, b = a ++ c ∧ r = rest c
  | [], b, _, _, h => ⟨b, rfl, h⟩
  | n :: a, [], _, _, h => by simp [rest] at h
  | n :: a, m :: b, ha, hb, h => by
    simp only [rest, List.cons_append, List.cons.injEq, true_and, List.append_assoc] at h
    have l1 := lead_sh (n := n) (by have := ha.cons.1; omega) (noD_rest_append a hr)
    have l2 := lead_sh (n := m) (by have := hb.cons.1; omega) (noD_rest b)
    rw [h, l2] at l1
    obtain rfl : m = n := congrArg Prod.fst l1
    obtain ⟨c, rfl, hc⟩ := rest_split hr ha.cons.2 hb.cons.2 (List.append_cancel_left h)
    exact ⟨c, rfl, hc⟩
theorem cod_split {r : List UInt8} (hr : NoD r) {a b : List Nat} (ha : Ns a) (hb : Ns b) (h0 : a ≠ []) (h : cod a ++ r = cod b) : ∃ c, b = a ++ c ∧ r = rest c := by
  cases a with
  | nil => exact absurd rfl h0
  | cons n a =>
    cases b with
    | nil => simp [cod, tw] at h
    | cons m b =>
      simp only [cod, List.append_assoc] at h
      have l1 := lead_tw (n := n) (by have := ha.cons.1; omega) (rest a ++ r)
      have l2 := lead_tw (n := m) (by have := hb.cons.1; omega) (rest b)
      rw [h, l2] at l1
      obtain rfl : m = n := congrArg Prod.fst l1
      obtain ⟨c, rfl, hc⟩ := rest_split hr ha.cons.2 hb.cons.2 (List.append_cancel_left h)
      exact ⟨c, rfl, hc⟩
theorem rest_nil {c : List Nat} (h : [] = rest c) : c = [] := by cases c with
  | nil => rfl
  | cons n c => simp [rest] at h
theorem cod_ne {p : List Nat} (h : p ≠ []) : cod p ≠ [] := by cases p with
  | nil => exact absurd rfl h
  | cons n c => simp [cod, tw]
theorem cod_inj {a b : List Nat} (ha : Ns a) (hb : Ns b) (h : cod a = cod b) : a = b := by
  by_cases h0 : a = []
  · subst h0
    by_cases h1 : b = []
    · exact h1.symm
    · exact absurd h.symm (cod_ne h1)
  · obtain ⟨c, rfl, hc⟩ := cod_split noD_nil ha hb h0 (by rw [List.append_nil]; exact h)
    rw [rest_nil hc, List.append_nil]
theorem txt_inj {a b : List Nat} (ha : Ns a) (hb : Ns b) (h : txt a = txt b) : a = b := cod_inj ha hb (by rw [← txt_list, ← txt_list, h])

/-- what the first digits of a text spell, back -/
theorem lead_two {t : List UInt8} {n : Nat} (h : lead t = (n, 2)) : t = tw n ++ t.drop 2 ∧ n < 100 := by
  unfold lead at h
  split at h
  · simp at h
  · split at h
    · rename_i a t ha
      split at h
      · simp at h
      · rename_i b t'
        split at h
        · rename_i hb
          obtain ⟨e1, l1⟩ := dg_back ha
          obtain ⟨e2, l2⟩ := dg_back hb
          simp only [Prod.mk.injEq, and_true] at h
          subst h
          refine ⟨?_, by omega⟩
          simp only [tw, List.cons_append, List.nil_append, List.drop_succ_cons, List.drop_zero]
          rw [show (10 * (a.toNat - 48) + (b.toNat - 48)) / 10 = a.toNat - 48 by omega, show (10 * (a.toNat - 48) + (b.toNat - 48)) % 10 = b.toNat - 48 by omega, ← e1, ← e2]
        · simp at h
    · simp at h
theorem lead_one {t : List UInt8} {n : Nat} (h : lead t = (n, 1)) : t = [dg n] ++ t.drop 1 ∧ n < 10 := by
  unfold lead at h
  split at h
  · simp at h
  · split at h
    · rename_i a t ha
      split at h
      · obtain ⟨e1, l1⟩ := dg_back ha
        simp only [Prod.mk.injEq, and_true] at h
        subst h
        refine ⟨?_, l1⟩
        simp only [List.cons_append, List.nil_append, List.drop_succ_cons, List.drop_zero]
        rw [← e1]
      · rename_i b t'
        split at h
        · simp at h
        · obtain ⟨e1, l1⟩ := dg_back ha
          simp only [Prod.mk.injEq, and_true] at h
          subst h
          refine ⟨?_, l1⟩
          simp only [List.cons_append, List.nil_append, List.drop_succ_cons, List.drop_zero]
          rw [← e1]
    · simp at h
theorem lead_le (t : List UInt8) : (lead t).2 ≤ 2 := by
  unfold lead
  split
  · simp
  · split
    · split
      · simp
      · split <;> simp
    · simp
/-- a later part, as the digits in front spell it -/
theorem lead_later {t : List UInt8} {n c : Nat} (h : lead t = (n, c)) (hc : c ≠ 0) (hn : n ≠ 0) (h0 : t.head? ≠ some 48) : t = sh n ++ t.drop c ∧ c = (sh n).length ∧ n ≤ 99 := by
  have hl := lead_le t
  rw [h] at hl
  simp only at hl
  have : c = 1 ∨ c = 2 := by omega
  rcases this with rfl | rfl
  · obtain ⟨e, hn⟩ := lead_one h
    rw [sh_one hn]
    exact ⟨e, rfl, by omega⟩
  · obtain ⟨e, hn2⟩ := lead_two h
    have h10 : 10 ≤ n := by
      apply Nat.le_of_not_lt
      intro hlt
      apply h0
      rw [e]
      simp only [tw, List.cons_append, List.head?_cons]
      rw [show n / 10 = 0 by omega]
      rfl
    rw [sh_two h10]
    exact ⟨e, rfl, by omega⟩

/-- no point in a part -/
theorem dg_pt {n : Nat} (h : n < 10) : dg n ≠ 46 := fun e => by
  have := congrArg UInt8.toNat e
  rw [dg_nat h] at this
  have e2 : (46 : UInt8).toNat = 46 := rfl
  omega
theorem tw_pt {n : Nat} (h : n < 100) : ∀ b ∈ tw n, b ≠ 46 := fun b hb => by
  simp [tw] at hb
  rcases hb with rfl | rfl
  · exact dg_pt (by omega)
  · exact dg_pt (by omega)
theorem sh_pt {n : Nat} (h : n < 100) : ∀ b ∈ sh n, b ≠ 46 := fun b hb => by
  unfold sh at hb
  split at hb
  · simp at hb; subst hb; exact dg_pt (by assumption)
  · exact tw_pt h b hb

/-- the pieces of a code between its points -/
def pcs : List Nat → List (List UInt8)
  | [] => []
  | n :: ns => tw n :: ns.map sh
theorem pcs_len (p : List Nat) : (pcs p).length = p.length := by cases p <;> simp [pcs]
theorem index_here : ∀ (x : List UInt8) (r : List UInt8), (∀ b ∈ x, b ≠ 46) → Lib.index (x ++ 46 :: r) [46] = (x.length : Int)
  | [], r, _ => by simp [Lib.index]
  | b :: x, r, h => by
    have hb : ¬ (46 : UInt8) = b := fun e => h b (by simp) e.symm
    have ih := index_here x r (fun c hc => h c (by simp [hc]))
    have h1 : (((x.length : Nat) : Int) == -1) = false := beq_eq_false_iff_ne.2 (by omega)
    simp [Lib.index, hb, ih, h1]
theorem index_not : ∀ (x : List UInt8), (∀ b ∈ x, b ≠ 46) → Lib.index x [46] = -1
  | [], _ => by simp [Lib.index]
  | b :: x, h => by
    have hb : ¬ (46 : UInt8) = b := fun e => h b (by simp) e.symm
    have ih := index_not x (fun c hc => h c (by simp [hc]))
    simp [Lib.index, hb, ih]
theorem split_at : ∀ (ns : List Nat) (x : List UInt8), (∀ b ∈ x, b ≠ 46) → Ns ns → Lib.splitK [46] 0 ns.length (x ++ rest ns) = x :: ns.map sh
  | [], x, _, _ => by simp [Lib.splitK, rest]
  | n :: ns, x, hx, hn => by
    have hi := index_here x (sh n ++ rest ns) hx
    have h1 : (((x.length : Nat) : Int) == -1) = false := beq_eq_false_iff_ne.2 (by omega)
    have ih := split_at ns (sh n) (sh_pt (by have := hn.cons.1; omega)) hn.cons.2
    simp only [List.length_cons, Lib.splitK, rest, hi, h1, Bool.false_eq_true, if_false, List.map_cons]
    rw [show ((x.length : Int)).toNat + 0 = x.length by omega, show ((x.length : Int)).toNat + (([] : List UInt8).length + 1) = x.length + 1 by simp]
    rw [List.take_left]
    rw [show (x ++ 46 :: (sh n ++ rest ns)).drop (x.length + 1) = sh n ++ rest ns by rw [List.drop_append]; simp]
    rw [ih]
theorem count_not {x : List UInt8} (h : ∀ b ∈ x, b ≠ 46) : x.count 46 = 0 := List.count_eq_zero.2 (fun hm => h 46 hm rfl)
theorem count_rest : ∀ (ns : List Nat), Ns ns → (rest ns).count 46 = ns.length
  | [], _ => rfl
  | n :: ns, h => by
    simp only [rest, List.count_cons_self, List.count_append, List.length_cons]
    rw [count_rest ns h.cons.2, count_not (sh_pt (by have := h.cons.1; omega))]; omega
def dot : ByteArray := ⟨#[46]⟩
theorem count_cod {p : List Nat} (h : Pts p) : Lib.countB (txt p) dot + 1 = p.length := by
  cases p with
  | nil => have := h.1; simp at this
  | cons n ns =>
    show Lib.count (txt (n :: ns)).data.toList [46] + 1 = _
    rw [txt_list, Lib.count_one]
    simp only [cod, List.count_append, List.length_cons]
    rw [count_rest ns h.2.2.cons.2, count_not (tw_pt (by have := h.2.2.cons.1; omega))]; omega
theorem split_cod {p : List Nat} (h : Pts p) : (Lib.splitB dot 0 (Lib.countB (txt p) dot) (txt p)).map (·.data.toList) = pcs p := by
  have hc := count_cod h
  cases p with
  | nil => have := h.1; simp at this
  | cons n ns =>
    rw [Lib.splitB_data, show Lib.countB (txt (n :: ns)) dot = ns.length by simp at hc; omega, txt_list]
    exact split_at ns (tw n) (tw_pt (by have := h.2.2.cons.1; omega)) h.2.2.cons.2

/-- a part's text reads back -/
theorem digitVal_of {x : Nat} (h : x < 10) : Lib.digitVal (dg x) = some x := by
  unfold Lib.digitVal
  rw [dg_nat h, if_pos (by omega)]
  congr 1; omega
theorem dg_not {x : Nat} (h : x < 10) (c : UInt8) (hc : c.toNat < 48) : (dg x == c) = false := by
  rw [beq_eq_false_iff_ne]
  intro e
  have := congrArg UInt8.toNat e
  rw [dg_nat h] at this
  omega
theorem atoi_tw {a : Nat} (h : a < 100) : Lib.atoi (tw a) = some (a : Int) := by
  unfold tw Lib.atoi
  simp only [dg_not (show a / 10 < 10 by omega) 45 (by decide), dg_not (show a / 10 < 10 by omega) 43 (by decide), Bool.false_eq_true, if_false, Lib.decNat, List.isEmpty_cons, Lib.decFrom, digitVal_of (show a / 10 < 10 by omega), digitVal_of (show a % 10 < 10 by omega)]
  simp only [Option.map_some, Option.some.injEq]
  omega
theorem atoi_sh {a : Nat} (h : a < 100) : Lib.atoi (sh a) = some (a : Int) := by
  by_cases h10 : a < 10
  · rw [sh_one h10]
    unfold Lib.atoi
    simp only [dg_not h10 45 (by decide), dg_not h10 43 (by decide), Bool.false_eq_true, if_false, Lib.decNat, List.isEmpty_cons, Lib.decFrom, digitVal_of h10]
    simp
  · rw [sh_two (by omega), atoi_tw h]
theorem atoi_pcs {p : List Nat} (h : Ns p) (i : Nat) (hi : i < p.length) : Lib.atoi ((pcs p).getD i []) = some ((p.getD i 0 : Nat) : Int) := by
  cases p with
  | nil => simp at hi
  | cons n ns =>
    cases i with
    | zero => simpa [pcs] using atoi_tw (a := n) (by have := h.cons.1; omega)
    | succ i =>
      have hi' : i < ns.length := by simpa using hi
      have hm := h.cons.2 ns[i] (List.getElem_mem hi')
      simpa [pcs, List.getD, hi'] using atoi_sh (a := ns[i]) (by omega)
theorem dec_small {n : Nat} (h : n < 10) : Lib.decDigits n = [dg n] := by rw [Lib.decDigits, dif_pos h]; rfl
theorem dec_sh {n : Nat} (h : n < 100) : Lib.decDigits n = sh n := by
  by_cases h10 : n < 10
  · rw [dec_small h10, sh_one h10]
  · rw [sh_two (by omega), Lib.decDigits, dif_neg (by omega), dec_small (by omega)]; rfl

/-- the last point of a code -/
theorem last_cod {q : List Nat} {n : Nat} (hq : q ≠ []) (h : Ns (q ++ [n])) : Lib.lastIndexByte (txt (q ++ [n])) 46 = ((cod q).length : Int) := by
  have hn : n < 100 := by have := h n (by simp); omega
  have he : (txt (q ++ [n])).data.toList = cod q ++ 46 :: sh n := by rw [txt_list, cod_append _ hq]; simp [rest]
  have hsz : (txt (q ++ [n])).size = (cod q).length + 1 + (sh n).length := by rw [txt_size, cod_append _ hq]; simp [rest]; omega
  have hget : ∀ j, j < (txt (q ++ [n])).size → (txt (q ++ [n])).data[j]! = (cod q ++ 46 :: sh n).getD j 0 := fun j hj => by
    rw [← he]
    have hj' : j < (txt (q ++ [n])).data.size := hj
    simp [getElem!_def, List.getD, Array.getElem?_eq_getElem hj']
  rcases Lib.lastIndexByte_spec (txt (q ++ [n])) 46 with ⟨_, hno⟩ | ⟨i, hi, e, hit, hno⟩
  · exfalso
    have := hno (cod q).length (by rw [hsz]; omega)
    rw [hget _ (by rw [hsz]; omega)] at this
    simp [List.getD] at this
  · rw [e]
    rw [hget i hi] at hit
    by_cases h1 : i < (cod q).length
    · exfalso
      have := hno (cod q).length h1 (by rw [hsz]; omega)
      rw [hget _ (by rw [hsz]; omega)] at this
      simp [List.getD] at this
    · by_cases h2 : i = (cod q).length
      · rw [h2]
      · exfalso
        obtain ⟨k, rfl⟩ : ∃ k, i = (cod q).length + 1 + k := ⟨i - (cod q).length - 1, by omega⟩
        have hk : k < (sh n).length := by omega
        have : (cod q ++ 46 :: sh n).getD ((cod q).length + 1 + k) 0 = (sh n)[k] := by
          have e3 : (cod q).length + 1 + k - (cod q).length = k + 1 := by omega
          simp only [List.getD, List.getElem?_append_right (show (cod q).length ≤ (cod q).length + 1 + k by omega), e3, List.getElem?_cons_succ, List.getElem?_eq_getElem hk]
          rfl
        rw [this] at hit
        have hp := sh_pt hn _ (List.getElem_mem hk)
        apply hp
        apply UInt8.toNat_inj.1
        have e2 : (46 : UInt8).toNat = 46 := rfl
        omega
theorem last_one {n : Nat} (h : n < 100) : Lib.lastIndexByte (txt [n]) 46 = -1 := by
  have he : (txt [n]).data.toList = tw n := by rw [txt_list]; simp [cod, rest]
  rcases Lib.lastIndexByte_spec (txt [n]) 46 with ⟨e, _⟩ | ⟨i, hi, e, hit, hno⟩
  · exact e
  · exfalso
    have hi' : i < (tw n).length := by rw [← he]; exact hi
    have hg : (txt [n]).data[i]! = (tw n)[i] := by
      have hj' : i < (txt [n]).data.size := hi
      have h1 : (txt [n]).data.toList[i]? = (tw n)[i]? := by rw [he]
      rw [List.getElem?_eq_getElem hi', Array.getElem?_toList, Array.getElem?_eq_getElem hj'] at h1
      rw [getElem!_pos (txt [n]).data i hj']
      exact Option.some.inj h1
    rw [hg] at hit
    apply tw_pt h _ (List.getElem_mem hi')
    apply UInt8.toNat_inj.1
    have e2 : (46 : UInt8).toNat = 46 := rfl
    omega
end Go.Proofs.YtdcnkebcpaelpaaGreatDoor.C6
