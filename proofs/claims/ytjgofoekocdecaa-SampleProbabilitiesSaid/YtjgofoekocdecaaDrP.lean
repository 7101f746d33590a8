import Derived.Test.YtjgofoekocdecaaDrB
import Derived.Test.YtjgofoekocdecaaMaths
import Derived.Test.YtjgofoekocdecaaEstA
/- The probabilities of a draw: over one denominator, above 0, at most 1, not less for greater units, and their sum. -/
namespace Go.Proofs.Ytjgofoekocdecaa.Dr

theorem Ord.desc {N : Nat} {x : Nat → Int} {od : List Nat} (h : Ord N x od) {a b : Nat} (hab : a ≤ b) (hb : b < N) : x (od.getD b 0) ≤ x (od.getD a 0) := by
  by_cases e : a = b
  · rw [e]; exact Int.le_refl _
  · have h1 : a < od.length := by rw [h.len]; omega
    have h2 : b < od.length := by rw [h.len]; omega
    have := List.pairwise_iff_getElem.1 h.srt a b h1 h2 (by omega)
    simp [List.getD, h1, h2]
    omega
theorem Cert.m_pos {N : Nat} {x : Nat → Int} {od : List Nat} {m K : Nat} (c : Cert N x od m K) (h : Ord N x od) (hx : ∀ i, i < N → 1 ≤ x i ∧ x i ≤ 1099511627776) (hm : 1 ≤ m) (hK : K < N) : 1 ≤ (m : Int) - (K : Int) := by
  have hle := c.K_le h hx
  by_cases e : K < m
  · omega
  · exfalso
    have e2 : K = m := by omega
    obtain ⟨j, hj⟩ : ∃ j, K = j + 1 := ⟨K - 1, by omega⟩
    have h1 := c.go j (by omega)
    rw [show (m : Int) - (j : Int) = 1 by omega, Int.mul_one, T_next h (show j < N by omega)] at h1
    have h2 := (T_bd h hx (N - (j + 1)) (j + 1) (by omega)).1
    omega
theorem Cert.low {N : Nat} {x : Nat → Int} {od : List Nat} {m K : Nat} (c : Cert N x od m K) (h : Ord N x od) (hx : ∀ i, i < N → 1 ≤ x i ∧ x i ≤ 1099511627776) (hm : 1 ≤ m) (hK : K < N) {i : Nat} (hi : i < N) (hn : i ∉ od.take K) : x i * ((m : Int) - (K : Int)) ≤ T x od K := by
  have h1 := (h.best hK hi hn).1
  have h2 := c.stop hK
  have h3 := c.m_pos h hx hm hK
  have h4 := Int.mul_le_mul_of_nonneg_right h1 (show 0 ≤ (m : Int) - (K : Int) by omega)
  omega
theorem Cert.apart {N : Nat} {x : Nat → Int} {od : List Nat} {m K : Nat} (c : Cert N x od m K) (h : Ord N x od) (hK : K < N) {i k : Nat} (hi : i < N) (hn : i ∉ od.take K) (hk : k ∈ od.take K) : x i < x k := by
  have h1 := (h.best hK hi hn).1
  obtain ⟨j, hj, rfl⟩ := List.mem_take_iff_getElem.1 hk
  have hjK : j < K := by omega
  have hjl : j < od.length := by omega
  have e : od[j] = od.getD j 0 := by simp [List.getD, hjl]
  rw [e]
  obtain ⟨q, hq⟩ : ∃ q, K = q + 1 := ⟨K - 1, by omega⟩
  have h2 := h.desc (show j ≤ q by omega) (show q < N by omega)
  have h3 := h.desc (show q ≤ K by omega) hK
  by_cases e2 : x i < x (od.getD j 0)
  · exact e2
  · exfalso
    have h4 : x (od.getD q 0) = x (od.getD K 0) := by omega
    have h5 := c.go q (by omega)
    have h6 := c.stop hK
    rw [T_next h (show q < N by omega), ← hq, h4] at h5
    have h7 : x (od.getD K 0) * ((m : Int) - (q : Int)) = x (od.getD K 0) * ((m : Int) - (K : Int)) + x (od.getD K 0) := by
      rw [show (m : Int) - (q : Int) = ((m : Int) - (K : Int)) + 1 by omega, Int.mul_add, Int.mul_one]
    omega
theorem sum_const (l : List Nat) (f : Nat → Int) (a : Int) (h : ∀ i ∈ l, f i = a) : (l.map f).sum = (l.length : Int) * a := by
  induction l with
  | nil => simp
  | cons b l ih =>
    rw [List.map_cons, List.sum_cons, ih (fun i hi => h i (List.mem_cons_of_mem _ hi)), h b List.mem_cons_self, List.length_cons, Int.natCast_add, Int.add_mul]
    omega
theorem sum_mul (l : List Nat) (f g : Nat → Int) (a : Int) (h : ∀ i ∈ l, f i = g i * a) : (l.map f).sum = (l.map g).sum * a := by
  induction l with
  | nil => simp
  | cons b l ih =>
    rw [List.map_cons, List.sum_cons, ih (fun i hi => h i (List.mem_cons_of_mem _ hi)), h b List.mem_cons_self, List.map_cons, List.sum_cons, Int.add_mul]
/-- over one denominator -/
theorem prob_repr {N : Nat} {x : Nat → Int} {od : List Nat} {m K : Nat} (h : Ord N x od) (c : Cert N x od m K) (hx : ∀ i, i < N → 1 ≤ x i ∧ x i ≤ 1099511627776) (hm : 1 ≤ m) (hmN : m ≤ N) : ∃ (D : Nat) (y : Nat → Int), 0 < D ∧
    (∀ i, i < N → incQ x od K ((m : Int) - (K : Int)) i = mkRat (y i) D ∧ 0 < y i ∧ y i ≤ (D : Int)) ∧ (∀ i k, i < N → k < N → x k ≤ x i → y k ≤ y i) ∧ ((List.range N).map y).sum = (m : Int) * (D : Int) := by
  by_cases hK : K < N
  · have hb := T_bd h hx (N - K) K (by omega)
    obtain ⟨A, hA⟩ : ∃ A, A = T x od K := ⟨_, rfl⟩
    have hM := c.m_pos h hx hm hK
    rw [← hA] at hb
    have hA1 : 1 ≤ A := by omega
    have hD : ((A.toNat : Nat) : Int) = A := by omega
    refine ⟨A.toNat, fun i => if i ∈ od.take K then A else x i * ((m : Int) - (K : Int)), by omega, fun i hi => ?_, fun i k hi hk hle => ?_, ?_⟩
    · unfold incQ
      by_cases e : i ∈ od.take K
      · simp only [if_pos e]
        refine ⟨?_, by omega, by omega⟩
        have : mkRat A A.toNat = 1 := by
          have h1 : mkRat A A.toNat = mkRat 1 1 := (Rat.mkRat_eq_iff (by omega) (by omega)).2 (by omega)
          rw [h1]; rfl
        exact this.symm
      · simp only [if_neg e]
        have hxi := hx i hi
        have hlow := c.low h hx hm hK hi e
        rw [← hA] at hlow ⊢
        have hpos : 0 < x i * ((m : Int) - (K : Int)) := Int.mul_pos (by omega) (by omega)
        refine ⟨?_, hpos, by omega⟩
        unfold fq rq
        rw [decide_eq_false (show ¬ x i * ((m : Int) - (K : Int)) < 0 by omega), decide_eq_false (show ¬ A < 0 by omega)]
        rw [show A.natAbs = A.toNat by omega]
        congr 1
        show (if _ then _ else _) = _
        rw [if_neg (by decide)]
        omega
    · by_cases ei : i ∈ od.take K
      · simp only [if_pos ei]
        by_cases ek : k ∈ od.take K
        · rw [if_pos ek]; exact Int.le_refl _
        · rw [if_neg ek, hA]; exact c.low h hx hm hK hk ek
      · simp only [if_neg ei]
        by_cases ek : k ∈ od.take K
        · exfalso
          have := c.apart h hK hi ei ek
          omega
        · rw [if_neg ek]
          exact Int.mul_le_mul_of_nonneg_right hle (by omega)
    · rw [sum_perm ((h.perm.symm).map _)]
      obtain ⟨f, hf⟩ : ∃ f : Nat → Int, f = fun i => if i ∈ od.take K then A else x i * ((m : Int) - (K : Int)) := ⟨_, rfl⟩
      rw [← hf]
      have hsp : (od.map f).sum = ((od.take K).map f).sum + ((od.drop K).map f).sum := by rw [← List.sum_append, ← List.map_append, List.take_append_drop]
      rw [hsp]
      have hKl : (od.take K).length = K := by rw [List.length_take, h.len]; omega
      rw [sum_const (od.take K) f A (fun i hi => by rw [hf]; simp only [if_pos hi]), hKl]
      have hnd := h.nodup
      rw [← List.take_append_drop K od, List.nodup_append] at hnd
      rw [sum_mul (od.drop K) f x ((m : Int) - (K : Int)) (fun i hi => by rw [hf]; exact if_neg (fun h2 => hnd.2.2 i h2 i hi rfl))]
      rw [show ((od.drop K).map x).sum = A from hA.symm, hD, Int.mul_comm A, ← Int.add_mul]
      congr 1
      omega
  · have hKN : K = N := by have := c.le; omega
    have hKm := c.K_le h hx
    refine ⟨1, fun _ => 1, by omega, fun i hi => ?_, fun _ _ _ _ _ => Int.le_refl _, ?_⟩
    · unfold incQ
      rw [if_pos (by rw [hKN, List.take_of_length_le (by rw [h.len]; exact Nat.le_refl _)]; exact h.mem hi)]
      exact ⟨(show (1 : Rat) = mkRat 1 1 from rfl), (show (0 : Int) < 1 by omega), (show (1 : Int) ≤ ((1 : Nat) : Int) by omega)⟩
    · rw [sum_const (List.range N) (fun _ => 1) 1 (fun _ _ => rfl), List.length_range]
      omega
theorem mk_add {a b : Int} {D : Nat} (hD : 0 < D) : mkRat a D + mkRat b D = mkRat (a + b) D := by
  rw [Rat.mkRat_add_mkRat _ _ (by omega) (by omega), ← Int.add_mul]
  exact Rat.mkRat_mul_right (by omega)
theorem sum_mk (y : Nat → Int) {D : Nat} (hD : 0 < D) (Q : Nat → Rat) : ∀ N, (∀ i, i < N → Q i = mkRat (y i) D) → qsum ((List.range N).map Q) = mkRat (((List.range N).map y).sum) D := by
  intro N
  induction N with
  | zero => intro _; simp [qsum]
  | succ N ih =>
    intro h
    rw [List.range_succ, List.map_append, List.map_append, List.sum_append]
    simp only [List.map_cons, List.map_nil, List.sum_cons, List.sum_nil]
    rw [qsum_snoc, ih (fun i hi => h i (by omega)), h N (by omega), mk_add hD, Int.add_zero]
/-- what the law asks of the probabilities -/
theorem prob_facts {N : Nat} {x : Nat → Int} {od : List Nat} {m K : Nat} (h : Ord N x od) (c : Cert N x od m K) (hx : ∀ i, i < N → 1 ≤ x i ∧ x i ≤ 1099511627776) (hm : 1 ≤ m) (hmN : m ≤ N) :
    (∀ i, i < N → sgn (incQ x od K ((m : Int) - (K : Int)) i) = 1 ∧ cq (incQ x od K ((m : Int) - (K : Int)) i) 1 ≤ 0) ∧
    (∀ i k, i < N → k < N → x k ≤ x i → 0 ≤ cq (incQ x od K ((m : Int) - (K : Int)) i) (incQ x od K ((m : Int) - (K : Int)) k)) ∧
    qsum ((List.range N).map (incQ x od K ((m : Int) - (K : Int)))) = rq (decide ((m : Int) < 0)) (m : Int).natAbs 1 := by
  obtain ⟨D, y, hD, hy, hmono, hsum⟩ := prob_repr h c hx hm hmN
  refine ⟨fun i hi => ?_, fun i k hi hk hle => ?_, ?_⟩
  · obtain ⟨h1, h2, h3⟩ := hy i hi
    rw [h1]
    refine ⟨by rw [sgn_mk hD, if_neg (by omega), if_neg (by omega)], ?_⟩
    rw [show (1 : Rat) = mkRat 1 1 from rfl, cq_mk hD (by omega)]
    split
    · omega
    · split <;> omega
  · rw [(hy i hi).1, (hy k hk).1, cq_mk hD hD]
    have := hmono i k hi hk hle
    have h4 : y k * (D : Int) ≤ y i * (D : Int) := Int.mul_le_mul_of_nonneg_right this (by omega)
    rw [if_neg (by omega)]
    split <;> omega
  · rw [sum_mk y hD _ N (fun i hi => (hy i hi).1), hsum, decide_eq_false (show ¬ (m : Int) < 0 by omega)]
    show _ = mkRat _ 1
    rw [Rat.mkRat_eq_iff (by omega) (by omega)]
    show _ = (if _ then _ else _) * _
    rw [if_neg (by decide), show ((m : Int).natAbs : Int) = (m : Int) by omega]
    omega
end Go.Proofs.Ytjgofoekocdecaa.Dr
