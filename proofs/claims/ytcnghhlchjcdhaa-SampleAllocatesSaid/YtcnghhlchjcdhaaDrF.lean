import Derived.Test.YtcnghhlchjcdhaaDrE
import Derived.Lib.SlicesCompact
import Derived.Lib.RowBridge
import Derived.Test.YtcnghhlchjcdhaaDrB
import Derived.Test.YtcnghhlchjcdhaaRatsE
import Derived.Test.YtcnghhlchjcdhaaRatsC
/- A systematic sample holds as many units as asked for. -/
namespace Go.Proofs.Ytcnghhlchjcdhaa.Dr

theorem rat_le_div {a b c : Rat} (hc : 0 < c) : a ≤ b / c ↔ a * c ≤ b := by rw [← Rat.not_lt, ← Rat.not_lt, Rat.div_lt_iff hc]
theorem rat_div_le {a b c : Rat} (hc : 0 < c) : a / c ≤ b ↔ a ≤ b * c := by rw [← Rat.not_lt, ← Rat.not_lt, Rat.lt_div_iff hc]
theorem fq_zero {A : Int} (hA : 1 ≤ A) : fq 0 A = 0 := by
  rw [fq_div (by omega) (by omega), show ((0 : Int) : Rat) = 0 from rfl, Rat.div_def, Rat.zero_mul]
theorem pb_zero {A : Int} {q : Rat} (hA : 1 ≤ A) (h0 : 0 ≤ q) : pb A q 0 = 0 := by
  unfold pb
  rw [Int.zero_emod, Int.zero_ediv, fq_zero hA, if_neg (fun h => by have := (cq_neg_iff q 0).1 h; exact absurd h0 (Rat.not_le.2 this))]
  rfl
theorem pb_full {A M : Int} {q : Rat} (hA : 1 ≤ A) (h0 : 0 ≤ q) : pb A q (A * M) = M := by
  unfold pb
  rw [Int.mul_emod_right, Int.mul_ediv_cancel_left M (by omega), fq_zero hA, if_neg (fun h => by have := (cq_neg_iff q 0).1 h; exact absurd h0 (Rat.not_le.2 this))]
  exact Int.add_zero M
theorem outs_succ (C : List Nat) (i : Nat) : outs C (i + 1) = outs C i ++ (if i ∈ C then [] else [i]) := by
  unfold outs
  rw [List.range_succ, List.filter_append]
  congr 1
  by_cases h : i ∈ C <;> simp [h]
/-- the units that are drawn of the first i ones are as many as the points before the place of the next one -/
theorem sel_count {N : Nat} {x : Nat → Int} {C : List Nat} {M A : Int} {q : Rat} (hA : 1 ≤ A) (hM : 0 ≤ M) (hx : ∀ i, i < N → 1 ≤ x i) (hless : ∀ i, i < N → ¬ i ∈ C → x i * M < A) (h0 : 0 ≤ q) (h1 : q < 1) :
    ∀ i, i ≤ N → (((outs C i).filter (selB x C M A q)).length : Int) = pb A q (lays x C M i).2 ∧ 0 ≤ (lays x C M i).2 := by
  intro i
  induction i with
  | zero => intro _; exact ⟨by rw [show (lays x C M 0).2 = 0 from rfl, pb_zero hA h0]; rfl, Int.le_refl _⟩
  | succ i ih =>
    intro hi
    obtain ⟨h2, h3⟩ := ih (by omega)
    rw [outs_succ, List.filter_append, List.length_append]
    by_cases h : i ∈ C
    · rw [lays_in h, if_pos h]
      exact ⟨by simpa using h2, h3⟩
    · rw [lays_out h, if_neg h]
      have h4 := hx i (by omega)
      have h5 := hless i (by omega) h
      have h6 : 0 ≤ x i * M := Int.mul_nonneg (by omega) hM
      have h7 := pb_mono (s := q) hA h3 (show (lays x C M i).2 ≤ (lays x C M i).2 + x i * M by omega) h0 h1
      have h8 := pb_step (s := q) hA h3 (show (lays x C M i).2 + x i * M < (lays x C M i).2 + A by omega) h0 h1
      refine ⟨?_, by show 0 ≤ (lays x C M i).2 + x i * M; omega⟩
      show _ = pb A q ((lays x C M i).2 + x i * M)
      by_cases hs : selB x C M A q i = true
      · have := of_decide_eq_true hs
        simp only [List.filter_cons, List.filter_nil, hs, if_true, List.length_cons, List.length_nil]
        omega
      · have hs' : selB x C M A q i = false := by cases h : selB x C M A q i <;> simp_all
        have := of_decide_eq_false hs'
        simp only [List.filter_cons, List.filter_nil, hs']
        simp only [Bool.false_eq_true, if_false, List.length_nil]
        omega
theorem drawL_len {N : Nat} {x : Nat → Int} {od : List Nat} {m K : Nat} (h : Ord N x od) (c : Cert N x od m K) (hx : ∀ i, i < N → 1 ≤ x i ∧ x i ≤ 1099511627776) {q : Rat} (h0 : 0 ≤ q) (h1 : q < 1) (hmN : m ≤ N) :
    (drawL x (od.take K) ((m : Int) - (K : Int)) (T x od K) q N).length = m := by
  have hp := (draw_perm h ((m : Int) - (K : Int)) (T x od K) q (K := K)).length_eq
  have hKm := c.K_le h hx
  have hKN := c.le
  rw [List.length_append, List.length_take, h.len, selP_lays] at hp
  rw [← hp]
  by_cases hK : K < N
  · have hb := T_bd h hx (N - K) K (by omega)
    have := (sel_count (N := N) (C := od.take K) (A := T x od K) (M := (m : Int) - (K : Int)) (q := q) (by omega) (by omega) (fun i hi => (hx i hi).1) (fun i hi hn => c.less h hx hK hi hn) h0 h1 N (Nat.le_refl _)).1
    rw [lays_total h, pb_full (by omega) h0] at this
    omega
  · have e : outs (od.take K) N = [] := by
      unfold outs
      rw [List.filter_eq_nil_iff]
      intro i hi
      have : i ∈ od.take K := by
        rw [List.take_of_length_le (by rw [h.len]; omega)]
        exact h.mem (by simpa using hi)
      simp [this]
    rw [e]
    simp
    omega
theorem drawL_mem {x : Nat → Int} {C : List Nat} {M A : Int} {q : Rat} {N i : Nat} : i ∈ drawL x C M A q N ↔ i < N ∧ hitB x C M A q i = true := by simp [drawL]
/-- a unit that is not drawn is not certain -/
theorem not_drawn {N : Nat} {x : Nat → Int} {od : List Nat} {m K : Nat} (h : Ord N x od) (c : Cert N x od m K) (hx : ∀ i, i < N → 1 ≤ x i ∧ x i ≤ 1099511627776) {q : Rat} {i : Nat} (hi : i < N) (hn : i ∉ drawL x (od.take K) ((m : Int) - (K : Int)) (T x od K) q N) :
    cq (incQ x od K ((m : Int) - (K : Int)) i) 1 < 0 := by
  have hc : i ∉ od.take K := fun hc => hn (drawL_mem.2 ⟨hi, by unfold hitB; simp [hc]⟩)
  have hK : K < N := by
    by_cases e : K < N
    · exact e
    · exfalso
      apply hc
      rw [List.take_of_length_le (by rw [h.len]; omega)]
      exact h.mem hi
  have hKm := c.K_le h hx
  have hl := c.less h hx hK hi hc
  have hxi := hx i hi
  have h6 : 0 ≤ x i * ((m : Int) - (K : Int)) := Int.mul_nonneg (by omega) (by omega)
  unfold incQ
  rw [if_neg hc, cq_neg_iff, fq_div (by omega) h6]
  have hT : (0 : Rat) < (T x od K : Rat) := by
    have : ((0 : Int) : Rat) < (T x od K : Rat) := Rat.intCast_lt_intCast.2 (by omega)
    simpa using this
  rw [Rat.div_lt_iff hT, Rat.one_mul]
  exact Rat.intCast_lt_intCast.2 hl
theorem not_stB {q : Rat} (h0 : 0 ≤ q) (h1 : q < 1) : ¬ stB q := by
  rintro (h | h)
  · exact absurd h0 (Rat.not_le.2 ((sgn_neg_iff q).1 h))
  · have := (cq_neg_iff q 1).2 h1
    omega
theorem fq_unit {a b : Int} (hb : 0 < b) (h0 : 0 ≤ a) (h1 : a < b) : 0 ≤ fq a b ∧ fq a b < 1 := by
  have hbr : (0 : Rat) < (b : Rat) := by
    have : ((0 : Int) : Rat) < (b : Rat) := Rat.intCast_lt_intCast.2 hb
    simpa using this
  rw [fq_div hb h0]
  constructor
  · rw [rat_le_div hbr, Rat.zero_mul]
    have : ((0 : Int) : Rat) ≤ (a : Rat) := Rat.intCast_le_intCast.2 h0
    simpa using this
  · rw [Rat.div_lt_iff hbr, Rat.one_mul]
    exact Rat.intCast_lt_intCast.2 h1
theorem iz_getD (l : List Nat) (i : Nat) : (iz l).getD i 0 = ((l.getD i 0 : Nat) : Int) := by
  unfold iz
  by_cases h : i < l.length
  · simp [List.getD, h]
  · simp [List.getD, h]
theorem drawL_up2 {x : Nat → Int} {C : List Nat} {M A : Int} {q : Rat} {N i : Nat} (hi : i + 1 < (drawL x C M A q N).length) : (drawL x C M A q N).getD i 0 < (drawL x C M A q N).getD (i + 1) 0 := by
  have := List.pairwise_iff_getElem.1 (drawL_up x C M A q N) i (i + 1) (by omega) hi (by omega)
  simpa [List.getD, hi, show i < (drawL x C M A q N).length by omega] using this
theorem drawL_at {x : Nat → Int} {C : List Nat} {M A : Int} {q : Rat} {N i : Nat} (hi : i < (drawL x C M A q N).length) : (drawL x C M A q N).getD i 0 < N := by
  have : (drawL x C M A q N)[i] ∈ drawL x C M A q N := List.getElem_mem hi
  have := (drawL_mem.1 this).1
  simpa [List.getD, hi] using this
end Go.Proofs.Ytcnghhlchjcdhaa.Dr
/- The starts at which a systematic sample changes: between them it stays, and the lengths of the parts of a unit add up to its probability. -/
namespace Go.Proofs.Ytcnghhlchjcdhaa.Dr

theorem compact_up {zs : List Int} (h : zs.Pairwise (· ≤ ·)) : (Lib.compact zs).Pairwise (· < ·) := by
  unfold Lib.compact Lib.compactUpTo
  rw [List.pairwise_map]
  refine List.Pairwise.imp_of_mem ?_ ((List.pairwise_lt_range (n := zs.length)).filter _)
  intro a b ha hb hab
  rw [List.mem_filter] at ha hb
  have hbl : b < zs.length := by simpa using hb.1
  have hk := hb.2
  unfold Lib.keeps at hk
  have hk' := of_decide_eq_true hk
  have hne : zs.toArray[b]! ≠ zs.toArray[b - 1]! := by
    rcases hk' with h | h
    · omega
    · exact h
  have g : ∀ i (hi : i < zs.length), zs.toArray[i]! = zs[i] := fun i hi => by simp [getElem!_pos, hi]
  rw [g b hbl, g (b - 1) (by omega)] at hne
  rw [g a (by omega), g b hbl]
  have h1 : zs[b - 1] ≤ zs[b] := List.pairwise_iff_getElem.1 h (b - 1) b (by omega) hbl (by omega)
  have h2 : zs[a] ≤ zs[b - 1] := by
    by_cases e : a = b - 1
    · subst e; exact Int.le_refl _
    · exact List.pairwise_iff_getElem.1 h a (b - 1) (by omega) (by omega) (by omega)
  omega
theorem compact_mem {zs : List Int} {v : Int} : v ∈ Lib.compact zs ↔ v ∈ zs := by
  have g : ∀ i (hi : i < zs.length), zs.toArray[i]! = zs[i] := fun i hi => by simp [getElem!_pos, hi]
  constructor
  · intro h
    unfold Lib.compact Lib.compactUpTo at h
    obtain ⟨j, hj, rfl⟩ := List.mem_map.1 h
    have hjl : j < zs.length := by simpa using (List.mem_filter.1 hj).1
    rw [g j hjl]
    exact List.getElem_mem hjl
  · intro h
    obtain ⟨j, hj, rfl⟩ := List.mem_iff_getElem.1 h
    have key : ∀ j (hj : j < zs.length), zs[j] ∈ Lib.compact zs := by
      intro j
      induction j with
      | zero =>
        intro hj
        unfold Lib.compact Lib.compactUpTo
        exact List.mem_map.2 ⟨0, List.mem_filter.2 ⟨by simpa using hj, Lib.keeps_lt_one _ 0 (by omega)⟩, g 0 hj⟩
      | succ j ih =>
        intro hj
        by_cases e : zs[j + 1] = zs[j]
        · rw [e]; exact ih (by omega)
        · unfold Lib.compact Lib.compactUpTo
          refine List.mem_map.2 ⟨j + 1, List.mem_filter.2 ⟨by simpa using hj, Lib.keeps_pos ?_⟩, g (j + 1) hj⟩
          rw [g (j + 1) hj, Nat.add_sub_cancel, g j (by omega)]
          exact e
    exact key j hj

def offs (A : Int) (l : List Pc) : List Int := 0 :: l.map (fun p => p.2.1 % A)
/-- the places of the breaks, ascending -/
def brk (A : Int) (l : List Pc) : List Int := Lib.compact ((offs A l).mergeSort (fun x y => decide (x ≤ y)))
theorem brk_up (A : Int) (l : List Pc) : (brk A l).Pairwise (· < ·) := by
  apply compact_up
  have := List.pairwise_mergeSort (le := fun x y : Int => decide (x ≤ y)) (fun a b c h1 h2 => by simp only [decide_eq_true_eq] at *; omega) (fun a b => by simp only [Bool.or_eq_true, decide_eq_true_eq]; omega) (offs A l)
  exact this.imp (fun h => of_decide_eq_true h)
theorem brk_mem {A : Int} {l : List Pc} {v : Int} : v ∈ brk A l ↔ v = 0 ∨ ∃ p ∈ l, p.2.1 % A = v := by
  unfold brk
  rw [compact_mem, (List.mergeSort_perm _ _).mem_iff]
  simp [offs]
theorem brk_len {A : Int} {l : List Pc} : (brk A l).length ≤ l.length + 1 ∧ 1 ≤ (brk A l).length := by
  constructor
  · have := Lib.compact_length_le ((offs A l).mergeSort (fun x y => decide (x ≤ y)))
    rw [List.length_mergeSort] at this
    simpa [offs, brk] using this
  · have h : (0 : Int) ∈ brk A l := brk_mem.2 (.inl rfl)
    exact List.length_pos_of_mem h

/-- ascending places from 0 on, below A -/
structure Asc (bs : List Int) (A : Int) : Prop where
  up : bs.Pairwise (· < ·)
  zero : (0 : Int) ∈ bs
  bd : ∀ v ∈ bs, 0 ≤ v ∧ v < A
/-- the n-th place, at the end A -/
def bnd (bs : List Int) (A : Int) (n : Nat) : Int := if n < bs.length then bs.getD n 0 else A
theorem bnd_in {bs : List Int} {A : Int} {n : Nat} (h : n < bs.length) : bnd bs A n = bs[n] := by
  unfold bnd
  rw [if_pos h]
  simp [List.getD, h]
theorem Asc.lt {bs : List Int} {A : Int} (h : Asc bs A) {i j : Nat} (hij : i < j) (hj : j ≤ bs.length) : bnd bs A i < bnd bs A j := by
  rw [bnd_in (show i < bs.length by omega)]
  by_cases e : j < bs.length
  · rw [bnd_in e]
    exact List.pairwise_iff_getElem.1 h.up i j (by omega) e hij
  · unfold bnd
    rw [if_neg e]
    exact (h.bd _ (List.getElem_mem (by omega))).2
theorem Asc.pos {bs : List Int} {A : Int} (h : Asc bs A) : 0 < bs.length := List.length_pos_of_mem h.zero
theorem Asc.first {bs : List Int} {A : Int} (h : Asc bs A) : bnd bs A 0 = 0 := by
  have hp := h.pos
  obtain ⟨j, hj, e⟩ := List.mem_iff_getElem.1 h.zero
  have h1 := (h.bd _ (List.getElem_mem hp)).1
  rw [bnd_in hp]
  by_cases e2 : j = 0
  · subst e2; exact e
  · have := List.pairwise_iff_getElem.1 h.up 0 j hp hj (by omega)
    omega
theorem Asc.last {bs : List Int} {A : Int} (_ : Asc bs A) : bnd bs A bs.length = A := by unfold bnd; rw [if_neg (by omega)]
theorem Asc.gap {bs : List Int} {A : Int} (h : Asc bs A) {r : Int} (hr : r ∈ bs) {j : Nat} (hj : j < bs.length) (hlt : bnd bs A j < r) : bnd bs A (j + 1) ≤ r ∧ j + 1 < bs.length := by
  obtain ⟨k, hk, rfl⟩ := List.mem_iff_getElem.1 hr
  rw [← bnd_in (A := A) hk] at hlt ⊢
  have hjk : j < k := by
    by_cases e : j < k
    · exact e
    · exfalso
      by_cases e2 : j = k
      · subst e2; omega
      · have := h.lt (show k < j by omega) (by omega); omega
  refine ⟨?_, by omega⟩
  by_cases e : j + 1 = k
  · rw [e]; exact Int.le_refl _
  · have := h.lt (show j + 1 < k by omega) (by omega); omega

def acI (f : Nat → Int) : Nat → Int
  | 0 => 0
  | n + 1 => acI f n + f n
theorem acI_congr {f g : Nat → Int} : ∀ n, (∀ j, j < n → f j = g j) → acI f n = acI g n
  | 0, _ => rfl
  | n + 1, h => by
    show acI f n + f n = acI g n + g n
    rw [acI_congr n (fun j hj => h j (by omega)), h n (by omega)]
theorem acI_add (f g : Nat → Int) : ∀ n, acI (fun j => f j + g j) n = acI f n + acI g n
  | 0 => rfl
  | n + 1 => by
    show acI _ n + (f n + g n) = (acI f n + f n) + (acI g n + g n)
    rw [acI_add f g n]; omega
theorem acI_sub (f g : Nat → Int) : ∀ n, acI (fun j => f j - g j) n = acI f n - acI g n
  | 0 => rfl
  | n + 1 => by
    show acI _ n + (f n - g n) = (acI f n + f n) - (acI g n + g n)
    rw [acI_sub f g n]; omega
theorem acI_mul (f : Nat → Int) (a : Int) : ∀ n, acI (fun j => f j * a) n = acI f n * a
  | 0 => by simp [acI]
  | n + 1 => by
    show acI _ n + f n * a = (acI f n + f n) * a
    rw [acI_mul f a n, Int.add_mul]
/-- the length of the j-th part -/
def len (bs : List Int) (A : Int) (j : Nat) : Int := bnd bs A (j + 1) - bnd bs A j
theorem len_all {bs : List Int} {A : Int} (h : Asc bs A) : ∀ n, acI (len bs A) n = bnd bs A n
  | 0 => h.first.symm
  | n + 1 => by
    show acI _ n + len bs A n = _
    rw [len_all h n]
    unfold len
    omega
theorem len_below {bs : List Int} {A : Int} (h : Asc bs A) {r : Int} (hr : r ∈ bs) : ∀ n, n ≤ bs.length → acI (fun j => if bnd bs A j < r then len bs A j else 0) n = if bnd bs A n ≤ r then bnd bs A n else r := by
  intro n
  induction n with
  | zero => intro _; rw [h.first, if_pos (h.bd r hr).1]; rfl
  | succ n ih =>
    intro hn
    show acI _ n + (if bnd bs A n < r then len bs A n else 0) = _
    rw [ih (by omega)]
    by_cases hlt : bnd bs A n < r
    · have g := h.gap hr (show n < bs.length by omega) hlt
      rw [if_pos (show bnd bs A n ≤ r by omega), if_pos hlt, if_pos g.1]
      unfold len
      omega
    · have g := h.lt (show n < n + 1 by omega) hn
      rw [if_neg hlt, if_neg (show ¬ bnd bs A (n + 1) ≤ r by omega)]
      split <;> omega
/-- how many points lie before a place, for the starts of the part that begins at b -/
def pbI (A b p : Int) : Int := p / A + (if b < p % A then 1 else 0)
theorem len_points {bs : List Int} {A : Int} (h : Asc bs A) {p : Int} (hr : p % A ∈ bs) : acI (fun j => len bs A j * pbI A (bnd bs A j) p) bs.length = p := by
  have e : acI (fun j => len bs A j * pbI A (bnd bs A j) p) bs.length = acI (fun j => len bs A j * (p / A) + (if bnd bs A j < p % A then len bs A j else 0)) bs.length := acI_congr _ (fun j _ => by
    unfold pbI
    rw [Int.mul_add]
    split
    · rw [Int.mul_one]
    · rw [Int.mul_zero])
  rw [e, acI_add, acI_mul, len_all h, h.last, len_below h hr _ (Nat.le_refl _), h.last, if_neg (by have := (h.bd _ hr).2; omega)]
  have := Int.mul_ediv_add_emod p A
  omega
theorem pb_part {bs : List Int} {A : Int} (h : Asc bs A) {p : Int} (hr : p % A ∈ bs) (hA : 1 ≤ A) {j : Nat} (hj : j < bs.length) {s : Rat} (h0 : (bnd bs A j : Rat) / (A : Rat) ≤ s) (h1 : s < (bnd bs A (j + 1) : Rat) / (A : Rat)) : pb A s p = pbI A (bnd bs A j) p := by
  have hA' : (0 : Rat) < (A : Rat) := by
    have : ((0 : Int) : Rat) < (A : Rat) := Rat.intCast_lt_intCast.2 (by omega)
    simpa using this
  unfold pb pbI
  congr 1
  have hiff : cq s (fq (p % A) A) < 0 ↔ bnd bs A j < p % A := by
    rw [cq_neg_iff, fq_div (by omega) (h.bd _ hr).1]
    rw [rat_div_le hA'] at h0
    rw [Rat.lt_div_iff hA'] at h1 ⊢
    constructor
    · intro h2
      have : (bnd bs A j : Rat) < ((p % A : Int) : Rat) := by grind
      exact Rat.intCast_lt_intCast.1 this
    · intro h2
      have g := (h.gap hr hj h2).1
      have : (bnd bs A (j + 1) : Rat) ≤ ((p % A : Int) : Rat) := Rat.intCast_le_intCast.2 g
      grind
  by_cases e : bnd bs A j < p % A
  · rw [if_pos (hiff.2 e), if_pos e]
  · rw [if_neg (fun h => e (hiff.1 h)), if_neg e]

/-- the sample for the starts of the part that begins at b -/
def drB (x : Nat → Int) (C : List Nat) (M A b : Int) (N : Nat) : List Nat := (List.range N).filter (fun u => decide (u ∈ C) || decide (pbI A b (lays x C M u).2 < pbI A b ((lays x C M u).2 + x u * M)))
theorem drB_mem {x : Nat → Int} {C : List Nat} {M A b : Int} {N u : Nat} : u ∈ drB x C M A b N ↔ u < N ∧ (u ∈ C ∨ pbI A b (lays x C M u).2 < pbI A b ((lays x C M u).2 + x u * M)) := by simp [drB]
section
variable {N : Nat} {x : Nat → Int} {od : List Nat} {m K : Nat}
theorem K_lt (h : Ord N x od) {i : Nat} (hi : i < N) (hc : i ∉ od.take K) : K < N := by
  by_cases e : K < N
  · exact e
  · exfalso
    apply hc
    rw [List.take_of_length_le (by rw [h.len]; omega)]
    exact h.mem hi
theorem A_pos (h : Ord N x od) (hx : ∀ i, i < N → 1 ≤ x i ∧ x i ≤ 1099511627776) (hK : K < N) : 1 ≤ T x od K := by
  have := (T_bd h hx (N - K) K (by omega)).1
  omega
/-- the breaks of a draw -/
def bks (x : Nat → Int) (od : List Nat) (m K N : Nat) : List Int := brk (T x od K) (lays x (od.take K) ((m : Int) - (K : Int)) N).1
/-- the interval; 1 if there is none -/
def itv (x : Nat → Int) (od : List Nat) (K : Nat) : Int := max (T x od K) 1
theorem itv_eq (h : Ord N x od) (hx : ∀ i, i < N → 1 ≤ x i ∧ x i ≤ 1099511627776) (hK : K < N) : itv x od K = T x od K := by
  have := A_pos h hx hK
  unfold itv
  omega
theorem itv_pos (x : Nat → Int) (od : List Nat) (K : Nat) : 1 ≤ itv x od K := by unfold itv; omega
theorem bks_asc (h : Ord N x od) (c : Cert N x od m K) (hx : ∀ i, i < N → 1 ≤ x i ∧ x i ≤ 1099511627776) (hmN : m ≤ N) (hN : N ≤ 19) : Asc (bks x od m K N) (itv x od K) := by
  have hKm := c.K_le h hx
  refine ⟨brk_up _ _, brk_mem.2 (.inl rfl), fun v hv => ?_⟩
  rcases brk_mem.1 hv with rfl | ⟨p, hp, rfl⟩
  · have := itv_pos x od K
    omega
  · have g := lays_mem (C := od.take K) (m := (m : Int) - (K : Int)) (by omega) hx N (Nat.le_refl _) p hp
    have hK := K_lt h g.1 g.2.1
    have hA := A_pos h hx hK
    rw [itv_eq h hx hK]
    exact ⟨Int.emod_nonneg _ (by omega), Int.emod_lt_of_pos _ (by omega)⟩
theorem place_in (h : Ord N x od) : ∀ d i, i + d = N → (lays x (od.take K) ((m : Int) - (K : Int)) i).2 % T x od K ∈ bks x od m K N := by
  intro d
  induction d with
  | zero =>
    intro i hi
    obtain rfl : i = N := by omega
    rw [lays_total h, Int.mul_emod_right]
    exact brk_mem.2 (.inl rfl)
  | succ d ih =>
    intro i hi
    have g := ih (i + 1) (by omega)
    by_cases hc : i ∈ od.take K
    · rwa [lays_in hc] at g
    · refine brk_mem.2 (.inr ⟨(i, (lays x (od.take K) ((m : Int) - (K : Int)) i).2, (lays x (od.take K) ((m : Int) - (K : Int)) i).2 + x i * ((m : Int) - (K : Int))), ?_, rfl⟩)
      rw [lays_outs]
      exact List.mem_map.2 ⟨i, outs_mem.2 ⟨by omega, hc⟩, rfl⟩
theorem high_in (h : Ord N x od) {i : Nat} (hi : i < N) (hc : i ∉ od.take K) : ((lays x (od.take K) ((m : Int) - (K : Int)) i).2 + x i * ((m : Int) - (K : Int))) % T x od K ∈ bks x od m K N := by
  have := place_in (m := m) (K := K) h (N - (i + 1)) (i + 1) (by omega)
  rwa [lays_out hc] at this
theorem low_in (h : Ord N x od) {i : Nat} (hi : i < N) : (lays x (od.take K) ((m : Int) - (K : Int)) i).2 % T x od K ∈ bks x od m K N := place_in (m := m) (K := K) h (N - i) i (by omega)
/-- within a part the sample does not change -/
theorem drawL_part (h : Ord N x od) (c : Cert N x od m K) (hx : ∀ i, i < N → 1 ≤ x i ∧ x i ≤ 1099511627776) (hmN : m ≤ N) (hN : N ≤ 19) {j : Nat} (hj : j < (bks x od m K N).length) {s : Rat}
    (h0 : (bnd (bks x od m K N) (itv x od K) j : Rat) / (itv x od K : Rat) ≤ s) (h1 : s < (bnd (bks x od m K N) (itv x od K) (j + 1) : Rat) / (itv x od K : Rat)) :
    drawL x (od.take K) ((m : Int) - (K : Int)) (T x od K) s N = drB x (od.take K) ((m : Int) - (K : Int)) (T x od K) (bnd (bks x od m K N) (itv x od K) j) N := by
  unfold drawL drB
  apply List.filter_congr
  intro u hu
  have hu' : u < N := by simpa using hu
  unfold hitB selB
  by_cases hc : u ∈ od.take K
  · simp [hc]
  · have hK := K_lt h hu' hc
    have hA := bks_asc h c hx hmN hN
    rw [itv_eq h hx hK] at h0 h1 hA ⊢
    rw [pb_part hA (low_in h hu') (A_pos h hx hK) hj h0 h1, pb_part hA (high_in h hu' hc) (A_pos h hx hK) hj h0 h1]
/-- the lengths of the parts in which a unit is drawn -/
theorem part_sum (h : Ord N x od) (c : Cert N x od m K) (hx : ∀ i, i < N → 1 ≤ x i ∧ x i ≤ 1099511627776) (hmN : m ≤ N) (hN : N ≤ 19) {u : Nat} (hu : u < N) :
    acI (fun j => if u ∈ drB x (od.take K) ((m : Int) - (K : Int)) (T x od K) (bnd (bks x od m K N) (itv x od K) j) N then len (bks x od m K N) (itv x od K) j else 0) (bks x od m K N).length = if u ∈ od.take K then itv x od K else x u * ((m : Int) - (K : Int)) := by
  have hA := bks_asc h c hx hmN hN
  have hKm := c.K_le h hx
  by_cases hc : u ∈ od.take K
  · rw [if_pos hc]
    have e : acI (fun j => if u ∈ drB x (od.take K) ((m : Int) - (K : Int)) (T x od K) (bnd (bks x od m K N) (itv x od K) j) N then len (bks x od m K N) (itv x od K) j else 0) (bks x od m K N).length = acI (len (bks x od m K N) (itv x od K)) (bks x od m K N).length := acI_congr _ (fun j _ => if_pos (drB_mem.2 ⟨hu, .inl hc⟩))
    rw [e, len_all hA, hA.last]
  · rw [if_neg hc]
    have hK := K_lt h hu hc
    have hAp := A_pos h hx hK
    have hi := itv_eq h hx hK
    rw [hi] at hA ⊢
    obtain ⟨L, hL⟩ : ∃ L, L = (lays x (od.take K) ((m : Int) - (K : Int)) u).2 := ⟨_, rfl⟩
    obtain ⟨H, hH⟩ : ∃ H, H = (lays x (od.take K) ((m : Int) - (K : Int)) u).2 + x u * ((m : Int) - (K : Int)) := ⟨_, rfl⟩
    have hlin : L % T x od K ∈ bks x od m K N := by rw [hL]; exact low_in h hu
    have hhin : H % T x od K ∈ bks x od m K N := by rw [hH]; exact high_in h hu hc
    have hL0 : 0 ≤ L := by rw [hL]; exact (lays_bd (C := od.take K) (m := (m : Int) - (K : Int)) (by omega) hx u (by omega)).1
    have h6 : 0 ≤ x u * ((m : Int) - (K : Int)) := Int.mul_nonneg (by have := hx u hu; omega) (by omega)
    have h7 := c.less h hx hK hu hc
    have e : acI (fun j => if u ∈ drB x (od.take K) ((m : Int) - (K : Int)) (T x od K) (bnd (bks x od m K N) (T x od K) j) N then len (bks x od m K N) (T x od K) j else 0) (bks x od m K N).length =
        acI (fun j => len (bks x od m K N) (T x od K) j * pbI (T x od K) (bnd (bks x od m K N) (T x od K) j) H - len (bks x od m K N) (T x od K) j * pbI (T x od K) (bnd (bks x od m K N) (T x od K) j) L) (bks x od m K N).length := by
      refine acI_congr _ (fun j hj => ?_)
      have b0 := (hA.bd _ (List.getElem_mem hj))
      rw [← bnd_in (A := T x od K) hj] at b0
      have b1 := hA.lt (show j < j + 1 by omega) hj
      obtain ⟨s, hs⟩ : ∃ s : Rat, s = (bnd (bks x od m K N) (T x od K) j : Rat) / (T x od K : Rat) := ⟨_, rfl⟩
      have hAr : (0 : Rat) < (T x od K : Rat) := by
        have : ((0 : Int) : Rat) < (T x od K : Rat) := Rat.intCast_lt_intCast.2 (by omega)
        simpa using this
      have s0 : 0 ≤ s := by
        rw [hs, rat_le_div hAr, Rat.zero_mul]
        have : ((0 : Int) : Rat) ≤ (bnd (bks x od m K N) (T x od K) j : Rat) := Rat.intCast_le_intCast.2 b0.1
        simpa using this
      have s1 : s < 1 := by
        rw [hs, Rat.div_lt_iff hAr, Rat.one_mul]
        exact Rat.intCast_lt_intCast.2 b0.2
      have s2 : s < (bnd (bks x od m K N) (T x od K) (j + 1) : Rat) / (T x od K : Rat) := by
        rw [hs, Rat.div_lt_iff hAr, Rat.div_mul_cancel (by intro h; rw [h] at hAr; exact absurd hAr (by decide))]
        exact Rat.intCast_lt_intCast.2 b1
      have p1 := pb_part hA hlin hAp hj (s := s) (by rw [hs]; exact Rat.le_refl) s2
      have p2 := pb_part hA hhin hAp hj (s := s) (by rw [hs]; exact Rat.le_refl) s2
      have p3 := pb_mono (s := s) hAp hL0 (show L ≤ H by omega) s0 s1
      have p4 := pb_step (s := s) hAp hL0 (show H < L + T x od K by omega) s0 s1
      rw [p1, p2] at p3 p4
      rw [← Int.mul_sub]
      by_cases e : pbI (T x od K) (bnd (bks x od m K N) (T x od K) j) L < pbI (T x od K) (bnd (bks x od m K N) (T x od K) j) H
      · rw [if_pos (drB_mem.2 ⟨hu, .inr (by rw [← hH, ← hL]; exact e)⟩), show pbI (T x od K) (bnd (bks x od m K N) (T x od K) j) H - pbI (T x od K) (bnd (bks x od m K N) (T x od K) j) L = 1 by omega, Int.mul_one]
      · rw [if_neg (fun hm => (drB_mem.1 hm).2.elim hc (fun h => e (by rw [hL, hH]; exact h))), show pbI (T x od K) (bnd (bks x od m K N) (T x od K) j) H - pbI (T x od K) (bnd (bks x od m K N) (T x od K) j) L = 0 by omega, Int.mul_zero]
    rw [e, acI_sub, len_points hA hhin, len_points hA hlin]
    omega
end
end Go.Proofs.Ytcnghhlchjcdhaa.Dr
/- The parts of a draw as numbers: their ends, lengths and middles, and the sums of the lengths. -/
namespace Go.Proofs.Ytcnghhlchjcdhaa.Dr
open Go.RowKit Go.Sort C6

theorem ord_unique {N : Nat} {x : Nat → Int} {od od' : List Nat} (h : Ord N x od) (h' : Ord N x od') : od = od' :=
  List.Perm.eq_of_pairwise (le := fun a b => x b < x a ∨ (x a = x b ∧ a < b)) (fun a b _ _ h1 h2 => by omega) h.srt h'.srt (h.perm.trans h'.perm.symm)
theorem cert_unique {N : Nat} {x : Nat → Int} {od : List Nat} {n K K' : Nat} (c : Cert N x od n K) (c' : Cert N x od n K') : K = K' := by
  by_cases h : K < K'
  · have h1 := c'.go K h
    have h2 := c.stop (by have := c'.le; omega)
    omega
  · by_cases h' : K' < K
    · have h1 := c.go K' h'
      have h2 := c'.stop (by have := c.le; omega)
      omega
    · omega
theorem fq_self {A : Int} (hA : 1 ≤ A) : fq A A = 1 := by
  have hA' : (A : Rat) ≠ 0 := by
    have : ((0 : Int) : Rat) < (A : Rat) := Rat.intCast_lt_intCast.2 (by omega)
    intro h
    rw [h] at this
    exact absurd this (by decide)
  rw [fq_div (by omega) (by omega), Rat.div_def, Rat.mul_inv_cancel _ hA']
theorem fq_sub {a b A : Int} (hA : 1 ≤ A) (hb : 0 ≤ b) (hab : b ≤ a) : fq a A - fq b A = fq (a - b) A := by
  rw [fq_div (by omega) (by omega), fq_div (by omega) hb, fq_div (by omega) (by omega), Rat.intCast_sub, Rat.div_def, Rat.div_def, Rat.div_def]
  grind
theorem fq_add {a b A : Int} (hA : 1 ≤ A) (ha : 0 ≤ a) (hb : 0 ≤ b) : fq a A + fq b A = fq (a + b) A := by
  rw [fq_div (by omega) ha, fq_div (by omega) hb, fq_div (by omega) (by omega), Rat.intCast_add, Rat.div_def, Rat.div_def, Rat.div_def]
  grind
theorem fq_pos {a A : Int} (hA : 1 ≤ A) (ha : 1 ≤ a) : sgn (fq a A) = 1 := by
  unfold fq
  rw [decide_eq_false (show ¬ a < 0 by omega), decide_eq_false (show ¬ A < 0 by omega), sgn_rq (by omega), if_neg (by omega)]
  rfl
theorem sm2 {n : Nat} (h : (n : Int) ≤ 4611686018427387904) : Sm n 2 := by
  refine ⟨Nat.lt_of_lt_of_le (m := 18446744073709551616) (by omega) ?_, by omega⟩
  decide
theorem fq_sm {a A : Int} (hA : 1 ≤ A) (hA2 : A ≤ 4611686018427387904) (ha : 0 ≤ a) (ha2 : a ≤ 4611686018427387904) : Sm (rn (fq a A)) 2 ∧ Sm (fq a A).den 2 := by
  unfold fq
  have h := rq_le (s := decide (a < 0) != decide (A < 0)) (N := a.natAbs) (D := A.natAbs) (by omega)
  exact ⟨sm2 (by omega), sm2 (by omega)⟩
/-- the middle of a part lies in it -/
theorem mid_part {b l A : Int} (hA : 1 ≤ A) (hb : 0 ≤ b) (hl : 1 ≤ l) : (b : Rat) / (A : Rat) ≤ fq b A + fq l A * fq 1 2 ∧ fq b A + fq l A * fq 1 2 < ((b + l : Int) : Rat) / (A : Rat) := by
  have hA' : (0 : Rat) < (A : Rat) := by
    have : ((0 : Int) : Rat) < (A : Rat) := Rat.intCast_lt_intCast.2 (by omega)
    simpa using this
  have hl' : (0 : Rat) < (l : Rat) := by
    have : ((0 : Int) : Rat) < (l : Rat) := Rat.intCast_lt_intCast.2 (by omega)
    simpa using this
  obtain ⟨u, hu⟩ : ∃ u : Rat, u = (l : Rat) / (A : Rat) := ⟨_, rfl⟩
  have hu0 : 0 < u := by rw [hu, Rat.lt_div_iff hA', Rat.zero_mul]; exact hl'
  have hsum : ((b + l : Int) : Rat) / (A : Rat) = (b : Rat) / (A : Rat) + u := by
    rw [hu, Rat.intCast_add, Rat.div_def, Rat.div_def, Rat.div_def]
    grind
  rw [hsum, fq_div (by omega) hb, fq_div (by omega) (by omega), fq_div (a := 1) (b := 2) (by omega) (by omega), ← hu]
  have h2 : (((1 : Int) : Rat) / ((2 : Int) : Rat)) = 1 / 2 := rfl
  rw [h2]
  constructor <;> grind
theorem fq_le {a b A : Int} (hA : 1 ≤ A) (ha : 0 ≤ a) (hab : a ≤ b) : fq a A ≤ (b : Rat) / (A : Rat) := by
  have hA' : (0 : Rat) < (A : Rat) := by
    have : ((0 : Int) : Rat) < (A : Rat) := Rat.intCast_lt_intCast.2 (by omega)
    simpa using this
  rw [fq_div (by omega) ha, rat_div_le hA', Rat.div_mul_cancel (by intro h; rw [h] at hA'; exact absurd hA' (by decide))]
  exact Rat.intCast_le_intCast.2 hab
theorem fq_lt {a b A : Int} (hA : 1 ≤ A) (ha : 0 ≤ a) (hab : a < b) : fq a A < (b : Rat) / (A : Rat) := by
  have hA' : (0 : Rat) < (A : Rat) := by
    have : ((0 : Int) : Rat) < (A : Rat) := Rat.intCast_lt_intCast.2 (by omega)
    simpa using this
  rw [fq_div (by omega) ha, Rat.div_lt_iff hA', Rat.div_mul_cancel (by intro h; rw [h] at hA'; exact absurd hA' (by decide))]
  exact Rat.intCast_lt_intCast.2 hab
theorem fq_ge {a A : Int} (hA : 1 ≤ A) (ha : 0 ≤ a) : (a : Rat) / (A : Rat) ≤ fq a A := by
  rw [fq_div (by omega) ha]
  exact Rat.le_refl
theorem Inc.cg {w : World} {N : Nat} {rs : List RV} {P Q : Nat → Rat} (h : Inc w N rs (fun u => some (P u))) (e : ∀ u, u < N → P u = Q u) : Inc w N rs (fun u => some (Q u)) := ⟨h.1, fun u hu q hq => h.2 u hu q (by show some (P u) = some q; rw [e u hu]; exact hq)⟩
/-- a list of integers does not lie in a row of numbers -/
theorem rdz_ne {w : World} {a : Option Addr} {c : Nat} {l : List Int} {base g n : Nat} {rs : List RV} (h : RdZ w a c l) (ho : w.ownsRow base 33 3 (.slice (some ⟨g, 0, none⟩) n n) n (rvs rs)) : 0 < (intz l).length → ∀ b o, a = some ⟨b, o, none⟩ → b ≠ g := by
  intro hl b o e
  rintro rfl
  rcases h.2.2 with ⟨h2, _⟩ | ⟨b', o', e', hc⟩
  · rw [h2] at hl; simp at hl
  · rw [e] at e'; cases e'
    have hx : ∃ x : Int, (intz l)[0]? = some (.int .i64 x) := by
      cases l with
      | nil => simp [intz] at hl
      | cons x l => exact ⟨x, rfl⟩
    obtain ⟨x, hx⟩ := hx
    have h1 := hc 0 _ hx
    rw [Nat.add_zero] at h1
    rcases ho.2 with ⟨e, _⟩ | ⟨g', cap', cur, e, _, hg, _, _, hs, ht⟩
    · cases e
    · cases e
      have h3 : cur[o]? = some (.int .i64 x) := by simpa [World.cell?, hg] using h1
      have hlt : o < cur.size := (Array.getElem?_eq_some_iff.1 h3).1
      have h4 : (rvs rs)[o]? = some (.int .i64 x) := by
        rw [← ht, List.getElem?_take, if_pos (by omega)]
        simpa using h3
      have hm := List.mem_of_getElem? h4
      unfold rvs at hm
      obtain ⟨r, _, hr⟩ := List.mem_flatMap.1 hm
      simp [RV.vals] at hr
/-- the sums behind j parts -/
def accI (x : Nat → Int) (od : List Nat) (m K N : Nat) (u : Nat) : Nat → Int := acI (fun j => if u ∈ drB x (od.take K) ((m : Int) - (K : Int)) (T x od K) (bnd (bks x od m K N) (itv x od K) j) N then len (bks x od m K N) (itv x od K) j else 0)
theorem accI_bd {N : Nat} {x : Nat → Int} {od : List Nat} {m K : Nat} (hA : Asc (bks x od m K N) (itv x od K)) (u : Nat) : ∀ n, n ≤ (bks x od m K N).length → 0 ≤ accI x od m K N u n ∧ accI x od m K N u n ≤ bnd (bks x od m K N) (itv x od K) n := by
  intro n
  induction n with
  | zero => intro _; rw [hA.first]; exact ⟨Int.le_refl _, Int.le_refl _⟩
  | succ n ih =>
    intro hn
    have h1 := ih (by omega)
    have h2 := hA.lt (show n < n + 1 by omega) hn
    have e : accI x od m K N u (n + 1) = accI x od m K N u n + (if u ∈ drB x (od.take K) ((m : Int) - (K : Int)) (T x od K) (bnd (bks x od m K N) (itv x od K) n) N then len (bks x od m K N) (itv x od K) n else 0) := rfl
    rw [e]
    unfold len
    split <;> omega
/-- the sums behind all parts are the probabilities -/
theorem accI_end {N : Nat} {x : Nat → Int} {od : List Nat} {m K : Nat} (h : Ord N x od) (c : Cert N x od m K) (hx : ∀ i, i < N → 1 ≤ x i ∧ x i ≤ 1099511627776) (hmN : m ≤ N) (hN : N ≤ 19) {u : Nat} (hu : u < N) :
    fq (accI x od m K N u (bks x od m K N).length) (itv x od K) = incQ x od K ((m : Int) - (K : Int)) u := by
  unfold accI incQ
  rw [part_sum h c hx hmN hN hu]
  by_cases hc : u ∈ od.take K
  · rw [if_pos hc, if_pos hc, fq_self (itv_pos x od K)]
  · rw [if_neg hc, if_neg hc, itv_eq h hx (K_lt h hu hc)]
theorem nodup_take (l : List Nat) (h : l.Nodup) {i : Nat} (hi : i < l.length) : l.getD i 0 ∉ l.take i := by
  rw [← List.take_append_drop i l, drop_getD l hi, List.nodup_append] at h
  intro hm
  exact h.2.2 _ hm _ (List.mem_cons_self) rfl
theorem mem_take_succ (l : List Nat) {i : Nat} (hi : i < l.length) (u : Nat) : u ∈ l.take (i + 1) ↔ u ∈ l.take i ∨ u = l.getD i 0 := by
  rw [take_getD l hi, List.mem_append, List.mem_singleton]
theorem drB_nodup (x : Nat → Int) (C : List Nat) (M A b : Int) (N : Nat) : (drB x C M A b N).Nodup := List.nodup_range.filter _
/-- the parts of a draw, by letters -/
structure Parts (N m L : Nat) (A : Int) (bd ln : Nat → Int) (DB : Nat → List Nat) (ac : Nat → Nat → Int) : Prop where
  ab : 1 ≤ A ∧ A ≤ 4611686018427387904
  hbd : ∀ j, j < L → 0 ≤ bd j ∧ bd j < bd (j + 1) ∧ bd (j + 1) ≤ A
  fin : bd L = A
  cnt : 1 ≤ L ∧ L ≤ N + 1
  hln : ∀ j, ln j = bd (j + 1) - bd j
  db : ∀ j, j < L → (DB j).length = m
  dlt : ∀ j, j < L → ∀ i, i < m → (DB j).getD i 0 < N
  dup : ∀ j, j < L → ∀ i, i < m → (DB j).getD i 0 ∉ (DB j).take i
  ac0 : ∀ u, ac u 0 = 0
  acs : ∀ u j, ac u (j + 1) = ac u j + (if u ∈ DB j then ln j else 0)
  acb : ∀ u j, j ≤ L → 0 ≤ ac u j ∧ ac u j ≤ A
theorem part_start {bs : List Int} {A : Int} (h : Asc bs A) (hA : 1 ≤ A) {j : Nat} (hj : j < bs.length) {q : Rat} (h0 : (bnd bs A j : Rat) / (A : Rat) ≤ q) (h1 : q < (bnd bs A (j + 1) : Rat) / (A : Rat)) : 0 ≤ q ∧ q < 1 := by
  have hA' : (0 : Rat) < (A : Rat) := by
    have : ((0 : Int) : Rat) < (A : Rat) := Rat.intCast_lt_intCast.2 (by omega)
    simpa using this
  have hb0 : 0 ≤ bnd bs A j := by rw [bnd_in hj]; exact (h.bd _ (List.getElem_mem hj)).1
  have hb1 : bnd bs A (j + 1) ≤ A := by
    by_cases e : j + 1 = bs.length
    · rw [e, h.last]; exact Int.le_refl _
    · rw [bnd_in (show j + 1 < bs.length by omega)]
      exact Int.le_of_lt (h.bd _ (List.getElem_mem (by omega))).2
  have e0 : ((0 : Int) : Rat) ≤ (bnd bs A j : Rat) := Rat.intCast_le_intCast.2 hb0
  have e1 : (bnd bs A (j + 1) : Rat) ≤ (A : Rat) := Rat.intCast_le_intCast.2 hb1
  rw [rat_div_le hA'] at h0
  rw [Rat.lt_div_iff hA'] at h1
  constructor
  · by_cases e : 0 ≤ q
    · exact e
    · exfalso
      have h3 : q * (A : Rat) < 0 * (A : Rat) := Rat.mul_lt_mul_of_pos_right (Rat.not_le.1 e) hA'
      rw [Rat.zero_mul] at h3
      have e0' : (0 : Rat) ≤ (bnd bs A j : Rat) := by simpa using e0
      grind
  · by_cases e : q < 1
    · exact e
    · exfalso
      have h3 : 1 * (A : Rat) ≤ q * (A : Rat) := Rat.mul_le_mul_of_nonneg_right (Rat.not_lt.1 e) (Rat.le_of_lt hA')
      rw [Rat.one_mul] at h3
      grind
theorem drB_len {N : Nat} {x : Nat → Int} {od : List Nat} {m K : Nat} (h : Ord N x od) (c : Cert N x od m K) (hx : ∀ i, i < N → 1 ≤ x i ∧ x i ≤ 1099511627776) (hmN : m ≤ N) (hN : N ≤ 19) {j : Nat} (hj : j < (bks x od m K N).length) :
    (drB x (od.take K) ((m : Int) - (K : Int)) (T x od K) (bnd (bks x od m K N) (itv x od K) j) N).length = m := by
  have hA := bks_asc h c hx hmN hN
  have hb0 : 0 ≤ bnd (bks x od m K N) (itv x od K) j := by rw [bnd_in hj]; exact (hA.bd _ (List.getElem_mem hj)).1
  have h1 := hA.lt (show j < j + 1 by omega) hj
  have p1 := fq_ge (A := itv x od K) (itv_pos x od K) hb0
  have p2 := fq_lt (A := itv x od K) (itv_pos x od K) hb0 h1
  obtain ⟨s0, s1⟩ := part_start hA (itv_pos x od K) hj p1 p2
  rw [← drawL_part h c hx hmN hN hj p1 p2]
  exact drawL_len h c hx s0 s1 hmN
theorem parts_of {N : Nat} {x : Nat → Int} {od : List Nat} {m K : Nat} (h : Ord N x od) (c : Cert N x od m K) (hx : ∀ i, i < N → 1 ≤ x i ∧ x i ≤ 1099511627776) (hmN : m ≤ N) (hN : N ≤ 19) :
    Parts N m (bks x od m K N).length (itv x od K) (bnd (bks x od m K N) (itv x od K)) (len (bks x od m K N) (itv x od K)) (fun j => drB x (od.take K) ((m : Int) - (K : Int)) (T x od K) (bnd (bks x od m K N) (itv x od K) j) N) (accI x od m K N) := by
  have hA := bks_asc h c hx hmN hN
  have hp := itv_pos x od K
  have hKm := c.K_le h hx
  have hKN := c.le
  have hT := T_bd h hx (N - K) K (by omega)
  have hle : ∀ j, j ≤ (bks x od m K N).length → bnd (bks x od m K N) (itv x od K) j ≤ itv x od K := fun j hj => by
    by_cases e : j = (bks x od m K N).length
    · rw [e, hA.last]; exact Int.le_refl _
    · have := hA.lt (show j < (bks x od m K N).length by omega) (Nat.le_refl _)
      rw [hA.last] at this
      omega
  have hdl : ∀ j, j < (bks x od m K N).length → (drB x (od.take K) ((m : Int) - (K : Int)) (T x od K) (bnd (bks x od m K N) (itv x od K) j) N).length = m := fun j hj => drB_len h c hx hmN hN hj
  refine ⟨⟨hp, by unfold itv; omega⟩, fun j hj => ⟨?_, hA.lt (by omega) hj, hle _ hj⟩, hA.last, ⟨hA.pos, ?_⟩, fun j => rfl, hdl, fun j hj i hi => ?_, fun j hj i hi => nodup_take (drB x (od.take K) ((m : Int) - (K : Int)) (T x od K) (bnd (bks x od m K N) (itv x od K) j) N) (drB_nodup _ _ _ _ _ _) (by rw [hdl j hj]; exact hi), fun u => rfl, fun u j => rfl, fun u j hj => ?_⟩
  · rw [bnd_in hj]; exact (hA.bd _ (List.getElem_mem hj)).1
  · have h1 := (brk_len (A := T x od K) (l := (lays x (od.take K) ((m : Int) - (K : Int)) N).1)).1
    have h2 := (lays_bd (C := od.take K) (m := (m : Int) - (K : Int)) (by omega) hx N (Nat.le_refl _)).2.2
    unfold bks
    omega
  · have hi' : i < (drB x (od.take K) ((m : Int) - (K : Int)) (T x od K) (bnd (bks x od m K N) (itv x od K) j) N).length := by rw [hdl j hj]; exact hi
    have := (drB_mem.1 (List.getElem_mem hi')).1
    simpa [List.getD, hi'] using this
  · have h1 := accI_bd hA u j hj
    have h2 := hle j hj
    omega
end Go.Proofs.Ytcnghhlchjcdhaa.Dr
/- sample.Breaks: up to nineteen sizes, any number. -/
namespace Go.Proofs.Ytcnghhlchjcdhaa.Dr
open Go.RowKit Go.Sort C6

theorem infoL : (Try.prog.info? 2).map (fun i => (i.zero, i.size, i.bytes)) = some (some (.int .i64 0), 1, 8) := by kernel_rfl
theorem grow_noneL (w : World) : grow w #[] = w := by cases w; simp [grow]
theorem own_cutL {w : World} {base n : Nat} {e : TypeId} {g cap : Nat} {xs : List Value} (h : w.ownsRow base e 1 (.slice (some ⟨g, 0, none⟩) n cap) n xs) {k : Nat} (hk : k ≤ n) : w.ownsRow base e 1 (.slice (some ⟨g, 0, none⟩) k cap) k (xs.take k) := by
  have hlen : xs.length = n := by have := h.1; omega
  rcases h.2 with ⟨e, _⟩ | ⟨g', cap', cur, e, hb, hg, hn, hc, hs, ht⟩
  · cases e
  · cases e
    refine ⟨by rw [List.length_take]; omega, .inr ⟨g, cap, cur, rfl, hb, hg, by omega, hc, hs, ?_⟩⟩
    rw [← ht, List.take_take]
    congr 1
    omega
theorem offs_take (A : Int) (l : List Pc) {i : Nat} (h : i < l.length) : offs A (l.take (i + 1)) = offs A (l.take i) ++ [(l[i]).2.1 % A] := by
  have e : l.take (i + 1) = l.take i ++ [l[i]] := by rw [List.take_add_one, List.getElem?_eq_getElem h]; rfl
  unfold offs
  rw [e, List.map_append]
  rfl
theorem offs_len (A : Int) (l : List Pc) (i : Nat) (h : i ≤ l.length) : (offs A (l.take i)).length = i + 1 := by
  unfold offs
  simp
  omega
/-- the u-th break -/
def brkQ (x : Nat → Int) (od : List Nat) (m K N u : Nat) : Rat := fq ((bks x od m K N).getD u 0) (itv x od K)
def BrkPost (xs : List Int) (n : Int) (w : World) (e : Ending) (w' : World) : Prop := Below w.heap.size w w' ∧
  ((drE xs n ≠ 0 ∧ e = .returned (.tuple #[.slice none 0 0, .int .i64 (drE xs n)])) ∨
   (drE xs n = 0 ∧ ∃ (m : Nat) (od : List Nat) (K : Nat) (a : Option Addr) (L c : Nat), n = (m : Int) ∧ 1 ≤ m ∧ m ≤ xs.length ∧ szs xs = true ∧ Ord xs.length (fx xs) od ∧ Cert xs.length (fx xs) od m K ∧
    e = .returned (.tuple #[.slice a L c, .int .i64 0]) ∧ L = (bks (fx xs) od m K xs.length).length ∧ RdN w' a c L (brkQ (fx xs) od m K xs.length)))

end Go.Proofs.Ytcnghhlchjcdhaa.Dr
