import Derived.Test.YtcnghhlchjcdhaaDrB
import Derived.Test.YtcnghhlchjcdhaaMaths
import Derived.Test.YtcnghhlchjcdhaaEstA
import Derived.WalkMore
import Derived.Sort.OwnSortedInts
import Derived.Test.YtcnghhlchjcdhaaBoxA
/- The probabilities of a draw: over one denominator, above 0, at most 1, not less for greater units, and their sum. -/
namespace Go.Proofs.Ytcnghhlchjcdhaa.Dr

theorem Ord.desc {N : Nat} {x : Nat → Int} {od : List Nat} (h : Ord N x od) {a b : Nat} (hab : a ≤ b) (hb : b < N) : x (od.getD b 0) ≤ x (od.getD a 0) := by
  by_cases e : a = b
  · rw [e]; exact Int.le_refl _
  · have h1 : a < od.length := by rw [h.len]; omega
    have h2 : b < od.length := by rw [h.len]; omega
    have := List.pairwise_iff_getElem.1 h.srt a b h1 h2 (by omega)
    simp [List.getD, h1, h2]
    omega
theorem Cert.m_pos {N : Nat} {x : Nat → Int} {od : List Nat} {m K : Nat} (c : Cert N x od m K) (h : Ord N x od) (hx : ∀ i, i < N → 1 ≤ x i ∧ x i ≤ 1099511627776) (hm : 1 ≤ m) (hK : K < N) : 1 ≤ (m : Int) - (K : Int) := by
  have hle := c.K_le h hx
  by_cases e : K < m
  · omega
  · exfalso
    have e2 : K = m := by omega
    obtain ⟨j, hj⟩ : ∃ j, K = j + 1 := ⟨K - 1, by omega⟩
    have h1 := c.go j (by omega)
    rw [show (m : Int) - (j : Int) = 1 by omega, Int.mul_one, T_next h (show j < N by omega)] at h1
    have h2 := (T_bd h hx (N - (j + 1)) (j + 1) (by omega)).1
    omega
theorem Cert.low {N : Nat} {x : Nat → Int} {od : List Nat} {m K : Nat} (c : Cert N x od m K) (h : Ord N x od) (hx : ∀ i, i < N → 1 ≤ x i ∧ x i ≤ 1099511627776) (hm : 1 ≤ m) (hK : K < N) {i : Nat} (hi : i < N) (hn : i ∉ od.take K) : x i * ((m : Int) - (K : Int)) ≤ T x od K := by
  have h1 := (h.best hK hi hn).1
  have h2 := c.stop hK
  have h3 := c.m_pos h hx hm hK
  have h4 := Int.mul_le_mul_of_nonneg_right h1 (show 0 ≤ (m : Int) - (K : Int) by omega)
  omega
theorem Cert.apart {N : Nat} {x : Nat → Int} {od : List Nat} {m K : Nat} (c : Cert N x od m K) (h : Ord N x od) (hK : K < N) {i k : Nat} (hi : i < N) (hn : i ∉ od.take K) (hk : k ∈ od.take K) : x i < x k := by
  have h1 := (h.best hK hi hn).1
  obtain ⟨j, hj, rfl⟩ := List.mem_take_iff_getElem.1 hk
  have hjK : j < K := by omega
  have hjl : j < od.length := by omega
  have e : od[j] = od.getD j 0 := by simp [List.getD, hjl]
  rw [e]
  obtain ⟨q, hq⟩ : ∃ q, K = q + 1 := ⟨K - 1, by omega⟩
  have h2 := h.desc (show j ≤ q by omega) (show q < N by omega)
  have h3 := h.desc (show q ≤ K by omega) hK
  by_cases e2 : x i < x (od.getD j 0)
  · exact e2
  · exfalso
    have h4 : x (od.getD q 0) = x (od.getD K 0) := by omega
    have h5 := c.go q (by omega)
    have h6 := c.stop hK
    rw [T_next h (show q < N by omega), ← hq, h4] at h5
    have h7 : x (od.getD K 0) * ((m : Int) - (q : Int)) = x (od.getD K 0) * ((m : Int) - (K : Int)) + x (od.getD K 0) := by
      rw [show (m : Int) - (q : Int) = ((m : Int) - (K : Int)) + 1 by omega, Int.mul_add, Int.mul_one]
    omega
theorem sum_const (l : List Nat) (f : Nat → Int) (a : Int) (h : ∀ i ∈ l, f i = a) : (l.map f).sum = (l.length : Int) * a := by
  induction l with
  | nil => simp
  | cons b l ih =>
    rw [List.map_cons, List.sum_cons, ih (fun i hi => h i (List.mem_cons_of_mem _ hi)), h b List.mem_cons_self, List.length_cons, Int.natCast_add, Int.add_mul]
    omega
theorem sum_mul (l : List Nat) (f g : Nat → Int) (a : Int) (h : ∀ i ∈ l, f i = g i * a) : (l.map f).sum = (l.map g).sum * a := by
  induction l with
  | nil => simp
  | cons b l ih =>
    rw [List.map_cons, List.sum_cons, ih (fun i hi => h i (List.mem_cons_of_mem _ hi)), h b List.mem_cons_self, List.map_cons, List.sum_cons, Int.add_mul]
/-- over one denominator -/
theorem prob_repr {N : Nat} {x : Nat → Int} {od : List Nat} {m K : Nat} (h : Ord N x od) (c : Cert N x od m K) (hx : ∀ i, i < N → 1 ≤ x i ∧ x i ≤ 1099511627776) (hm : 1 ≤ m) (hmN : m ≤ N) : ∃ (D : Nat) (y : Nat → Int), 0 < D ∧
    (∀ i, i < N → incQ x od K ((m : Int) - (K : Int)) i = mkRat (y i) D ∧ 0 < y i ∧ y i ≤ (D : Int)) ∧ (∀ i k, i < N → k < N → x k ≤ x i → y k ≤ y i) ∧ ((List.range N).map y).sum = (m : Int) * (D : Int) := by
  by_cases hK : K < N
  · have hb := T_bd h hx (N - K) K (by omega)
    obtain ⟨A, hA⟩ : ∃ A, A = T x od K := ⟨_, rfl⟩
    have hM := c.m_pos h hx hm hK
    rw [← hA] at hb
    have hA1 : 1 ≤ A := by omega
    have hD : ((A.toNat : Nat) : Int) = A := by omega
    refine ⟨A.toNat, fun i => if i ∈ od.take K then A else x i * ((m : Int) - (K : Int)), by omega, fun i hi => ?_, fun i k hi hk hle => ?_, ?_⟩
    · unfold incQ
      by_cases e : i ∈ od.take K
      · simp only [if_pos e]
        refine ⟨?_, by omega, by omega⟩
        have : mkRat A A.toNat = 1 := by
          have h1 : mkRat A A.toNat = mkRat 1 1 := (Rat.mkRat_eq_iff (by omega) (by omega)).2 (by omega)
          rw [h1]; rfl
        exact this.symm
      · simp only [if_neg e]
        have hxi := hx i hi
        have hlow := c.low h hx hm hK hi e
        rw [← hA] at hlow ⊢
        have hpos : 0 < x i * ((m : Int) - (K : Int)) := Int.mul_pos (by omega) (by omega)
        refine ⟨?_, hpos, by omega⟩
        unfold fq rq
        rw [decide_eq_false (show ¬ x i * ((m : Int) - (K : Int)) < 0 by omega), decide_eq_false (show ¬ A < 0 by omega)]
        rw [show A.natAbs = A.toNat by omega]
        congr 1
        show (if _ then _ else _) = _
        rw [if_neg (by decide)]
        omega
    · by_cases ei : i ∈ od.take K
      · simp only [if_pos ei]
        by_cases ek : k ∈ od.take K
        · rw [if_pos ek]; exact Int.le_refl _
        · rw [if_neg ek, hA]; exact c.low h hx hm hK hk ek
      · simp only [if_neg ei]
        by_cases ek : k ∈ od.take K
        · exfalso
          have := c.apart h hK hi ei ek
          omega
        · rw [if_neg ek]
          exact Int.mul_le_mul_of_nonneg_right hle (by omega)
    · rw [sum_perm ((h.perm.symm).map _)]
      obtain ⟨f, hf⟩ : ∃ f : Nat → Int, f = fun i => if i ∈ od.take K then A else x i * ((m : Int) - (K : Int)) := ⟨_, rfl⟩
      rw [← hf]
      have hsp : (od.map f).sum = ((od.take K).map f).sum + ((od.drop K).map f).sum := by rw [← List.sum_append, ← List.map_append, List.take_append_drop]
      rw [hsp]
      have hKl : (od.take K).length = K := by rw [List.length_take, h.len]; omega
      rw [sum_const (od.take K) f A (fun i hi => by rw [hf]; simp only [if_pos hi]), hKl]
      have hnd := h.nodup
      rw [← List.take_append_drop K od, List.nodup_append] at hnd
      rw [sum_mul (od.drop K) f x ((m : Int) - (K : Int)) (fun i hi => by rw [hf]; exact if_neg (fun h2 => hnd.2.2 i h2 i hi rfl))]
      rw [show ((od.drop K).map x).sum = A from hA.symm, hD, Int.mul_comm A, ← Int.add_mul]
      congr 1
      omega
  · have hKN : K = N := by have := c.le; omega
    have hKm := c.K_le h hx
    refine ⟨1, fun _ => 1, by omega, fun i hi => ?_, fun _ _ _ _ _ => Int.le_refl _, ?_⟩
    · unfold incQ
      rw [if_pos (by rw [hKN, List.take_of_length_le (by rw [h.len]; exact Nat.le_refl _)]; exact h.mem hi)]
      exact ⟨(show (1 : Rat) = mkRat 1 1 from rfl), (show (0 : Int) < 1 by omega), (show (1 : Int) ≤ ((1 : Nat) : Int) by omega)⟩
    · rw [sum_const (List.range N) (fun _ => 1) 1 (fun _ _ => rfl), List.length_range]
      omega
theorem mk_add {a b : Int} {D : Nat} (hD : 0 < D) : mkRat a D + mkRat b D = mkRat (a + b) D := by
  rw [Rat.mkRat_add_mkRat _ _ (by omega) (by omega), ← Int.add_mul]
  exact Rat.mkRat_mul_right (by omega)
theorem sum_mk (y : Nat → Int) {D : Nat} (hD : 0 < D) (Q : Nat → Rat) : ∀ N, (∀ i, i < N → Q i = mkRat (y i) D) → qsum ((List.range N).map Q) = mkRat (((List.range N).map y).sum) D := by
  intro N
  induction N with
  | zero => intro _; simp [qsum]
  | succ N ih =>
    intro h
    rw [List.range_succ, List.map_append, List.map_append, List.sum_append]
    simp only [List.map_cons, List.map_nil, List.sum_cons, List.sum_nil]
    rw [qsum_snoc, ih (fun i hi => h i (by omega)), h N (by omega), mk_add hD, Int.add_zero]
/-- what the law asks of the probabilities -/
theorem prob_facts {N : Nat} {x : Nat → Int} {od : List Nat} {m K : Nat} (h : Ord N x od) (c : Cert N x od m K) (hx : ∀ i, i < N → 1 ≤ x i ∧ x i ≤ 1099511627776) (hm : 1 ≤ m) (hmN : m ≤ N) :
    (∀ i, i < N → sgn (incQ x od K ((m : Int) - (K : Int)) i) = 1 ∧ cq (incQ x od K ((m : Int) - (K : Int)) i) 1 ≤ 0) ∧
    (∀ i k, i < N → k < N → x k ≤ x i → 0 ≤ cq (incQ x od K ((m : Int) - (K : Int)) i) (incQ x od K ((m : Int) - (K : Int)) k)) ∧
    qsum ((List.range N).map (incQ x od K ((m : Int) - (K : Int)))) = rq (decide ((m : Int) < 0)) (m : Int).natAbs 1 := by
  obtain ⟨D, y, hD, hy, hmono, hsum⟩ := prob_repr h c hx hm hmN
  refine ⟨fun i hi => ?_, fun i k hi hk hle => ?_, ?_⟩
  · obtain ⟨h1, h2, h3⟩ := hy i hi
    rw [h1]
    refine ⟨by rw [sgn_mk hD, if_neg (by omega), if_neg (by omega)], ?_⟩
    rw [show (1 : Rat) = mkRat 1 1 from rfl, cq_mk hD (by omega)]
    split
    · omega
    · split <;> omega
  · rw [(hy i hi).1, (hy k hk).1, cq_mk hD hD]
    have := hmono i k hi hk hle
    have h4 : y k * (D : Int) ≤ y i * (D : Int) := Int.mul_le_mul_of_nonneg_right this (by omega)
    rw [if_neg (by omega)]
    split <;> omega
  · rw [sum_mk y hD _ N (fun i hi => (hy i hi).1), hsum, decide_eq_false (show ¬ (m : Int) < 0 by omega)]
    show _ = mkRat _ 1
    rw [Rat.mkRat_eq_iff (by omega) (by omega)]
    show _ = (if _ then _ else _) * _
    rw [if_neg (by decide), show ((m : Int).natAbs : Int) = (m : Int) by omega]
    omega
end Go.Proofs.Ytcnghhlchjcdhaa.Dr
/- The points of a systematic sample: how many lie before a place. -/
namespace Go.Proofs.Ytcnghhlchjcdhaa.Dr

theorem fq_div {a b : Int} (hb : 0 < b) (ha : 0 ≤ a) : fq a b = (a : Rat) / (b : Rat) := by
  unfold fq rq
  rw [decide_eq_false (show ¬ a < 0 by omega), decide_eq_false (show ¬ b < 0 by omega)]
  have e : sg (false != false) a.natAbs = a := by
    show (if _ then _ else _) = _
    rw [if_neg (by decide)]
    omega
  rw [e, Rat.mkRat_eq_div]
  congr 1
  have : ((b.natAbs : Nat) : Int) = b := by omega
  calc ((b.natAbs : Nat) : Rat) = (((b.natAbs : Nat) : Int) : Rat) := rfl
    _ = (b : Rat) := by rw [this]
theorem sgn_neg_iff (q : Rat) : sgn q < 0 ↔ q < 0 := by
  have hn : q.num < 0 ↔ q < 0 := by
    rw [← Int.not_le, ← Rat.not_le, Rat.num_nonneg]
  unfold sgn
  by_cases h : q.num < 0
  · rw [if_pos h]; exact ⟨fun _ => hn.1 h, fun _ => by omega⟩
  · rw [if_neg h]
    constructor
    · intro h2; split at h2 <;> omega
    · intro h2; exact absurd (hn.2 h2) h
theorem cq_neg_iff (p q : Rat) : cq p q < 0 ↔ p < q := by
  unfold cq
  rw [sgn_neg_iff]
  constructor <;> intro h <;> grind
/-- how many points lie before a place -/
def pb (T : Int) (s : Rat) (place : Int) : Int := place / T + (if cq s (fq (place % T) T) < 0 then 1 else 0)
theorem pb_rat {t T r a k : Rat} (hT : 0 < T) (h0 : 0 ≤ t) (h1 : t < T) (r0 : 0 ≤ r) (r1 : r < T) (hk : k ≤ a ∨ a + 1 ≤ k) (hk2 : k + 1 ≤ a ∨ a ≤ k) : (t < r → (t + k * T < a * T + r ↔ k ≤ a)) ∧ (¬ t < r → (t + k * T < a * T + r ↔ k + 1 ≤ a)) := by
  have m1 : k ≤ a → k * T ≤ a * T := fun h => Rat.mul_le_mul_of_nonneg_right h (Rat.le_of_lt hT)
  have m2 : a + 1 ≤ k → (a + 1) * T ≤ k * T := fun h => Rat.mul_le_mul_of_nonneg_right h (Rat.le_of_lt hT)
  have m3 : k + 1 ≤ a → (k + 1) * T ≤ a * T := fun h => Rat.mul_le_mul_of_nonneg_right h (Rat.le_of_lt hT)
  have m4 : a ≤ k → a * T ≤ k * T := fun h => Rat.mul_le_mul_of_nonneg_right h (Rat.le_of_lt hT)
  rw [Rat.add_mul, Rat.one_mul] at m2 m3
  constructor
  · intro h
    constructor
    · intro h2
      rcases hk with hk | hk
      · exact hk
      · exfalso
        have := m2 hk
        grind
    · intro h2
      have := m1 h2
      grind
  · intro h
    constructor
    · intro h2
      rcases hk2 with hk | hk
      · exact hk
      · exfalso
        have := m4 hk
        grind
    · intro h2
      have := m3 h2
      grind
theorem pb_iff {T place : Int} {s : Rat} (hT : 1 ≤ T) (h0 : 0 ≤ s) (h1 : s < 1) (k : Nat) : (s + (k : Rat)) * (T : Rat) < (place : Rat) ↔ (k : Int) < pb T s place := by
  have hTr : (0 : Rat) < (T : Rat) := by
    have : ((0 : Int) : Rat) < (T : Rat) := Rat.intCast_lt_intCast.2 (by omega)
    simpa using this
  obtain ⟨r, hr⟩ : ∃ r, r = place % T := ⟨_, rfl⟩
  obtain ⟨a, ha⟩ : ∃ a, a = place / T := ⟨_, rfl⟩
  have hr0 : 0 ≤ r := by rw [hr]; exact Int.emod_nonneg _ (by omega)
  have hr1 : r < T := by rw [hr]; exact Int.emod_lt_of_pos _ (by omega)
  have hpl : place = a * T + r := by rw [hr, ha]; have := Int.mul_ediv_add_emod place T; rw [Int.mul_comm] at this; omega
  have hr0r : (0 : Rat) ≤ (r : Rat) := by
    have : ((0 : Int) : Rat) ≤ (r : Rat) := Rat.intCast_le_intCast.2 hr0
    simpa using this
  have hr1r : (r : Rat) < (T : Rat) := Rat.intCast_lt_intCast.2 hr1
  have hplr : (place : Rat) = (a : Rat) * (T : Rat) + (r : Rat) := by rw [hpl, Rat.intCast_add, Rat.intCast_mul]
  have ht0 : 0 ≤ s * (T : Rat) := Rat.mul_nonneg h0 (Rat.le_of_lt hTr)
  have ht1 : s * (T : Rat) < (T : Rat) := by
    have := Rat.mul_lt_mul_of_pos_right h1 hTr
    rwa [Rat.one_mul] at this
  have hkI : ((k : Nat) : Rat) = ((k : Int) : Rat) := rfl
  have hle : ∀ u v : Int, ((u : Rat) ≤ (v : Rat)) ↔ u ≤ v := fun u v => Rat.intCast_le_intCast
  have hk : (k : Rat) ≤ (a : Rat) ∨ (a : Rat) + 1 ≤ (k : Rat) := by
    rw [hkI]
    by_cases e : (k : Int) ≤ a
    · exact .inl ((hle _ _).2 e)
    · right
      have := (hle (a + 1) (k : Int)).2 (by omega)
      rwa [Rat.intCast_add] at this
  have hk2 : (k : Rat) + 1 ≤ (a : Rat) ∨ (a : Rat) ≤ (k : Rat) := by
    rw [hkI]
    by_cases e : (k : Int) + 1 ≤ a
    · left
      have := (hle ((k : Int) + 1) a).2 e
      rwa [Rat.intCast_add] at this
    · exact .inr ((hle _ _).2 (by omega))
  obtain ⟨c1, c2⟩ := pb_rat hTr ht0 ht1 hr0r hr1r hk hk2
  have hsr : cq s (fq (place % T) T) < 0 ↔ s * (T : Rat) < (r : Rat) := by
    rw [cq_neg_iff, ← hr, fq_div (by omega) hr0, Rat.lt_div_iff hTr]
  unfold pb
  rw [Rat.add_mul, hplr, ← ha]
  by_cases h : s * (T : Rat) < (r : Rat)
  · rw [if_pos (hsr.2 h), c1 h, hkI, hle]
    omega
  · rw [if_neg (fun h2 => h (hsr.1 h2)), c2 h, hkI]
    have := hle ((k : Int) + 1) a
    rw [Rat.intCast_add] at this
    rw [show ((k : Int) : Rat) + 1 = ((k : Int) : Rat) + ((1 : Int) : Rat) from rfl, this]
    omega
end Go.Proofs.Ytcnghhlchjcdhaa.Dr
/- Which units a systematic sample holds. -/
namespace Go.Proofs.Ytcnghhlchjcdhaa.Dr

theorem pb_nonneg {T place : Int} {s : Rat} (hT : 1 ≤ T) (hp : 0 ≤ place) : 0 ≤ pb T s place := by
  unfold pb
  have := Int.ediv_nonneg hp (show 0 ≤ T by omega)
  split <;> omega
theorem pb_mono {T p q : Int} {s : Rat} (hT : 1 ≤ T) (hp : 0 ≤ p) (hpq : p ≤ q) (h0 : 0 ≤ s) (h1 : s < 1) : pb T s p ≤ pb T s q := by
  by_cases e : pb T s p ≤ pb T s q
  · exact e
  · exfalso
    have hq := pb_nonneg (s := s) hT (show 0 ≤ q by omega)
    obtain ⟨k, hk⟩ : ∃ k : Nat, pb T s q = (k : Int) := ⟨(pb T s q).toNat, by omega⟩
    have h2 := (pb_iff (place := p) hT h0 h1 k).2 (by omega)
    have h3 : (p : Rat) ≤ (q : Rat) := Rat.intCast_le_intCast.2 hpq
    have h4 := (pb_iff (place := q) hT h0 h1 k).1 (by grind)
    omega
theorem pb_top {T p M : Int} {s : Rat} (hT : 1 ≤ T) (hM : 0 ≤ M) (hp : p ≤ T * M) (h0 : 0 ≤ s) (h1 : s < 1) : pb T s p ≤ M := by
  by_cases e : pb T s p ≤ M
  · exact e
  · exfalso
    obtain ⟨k, hk⟩ : ∃ k : Nat, M = (k : Int) := ⟨M.toNat, by omega⟩
    have h2 := (pb_iff (place := p) hT h0 h1 k).2 (by omega)
    have h3 : (p : Rat) ≤ ((T * M : Int) : Rat) := Rat.intCast_le_intCast.2 hp
    have hTr : (0 : Rat) ≤ (T : Rat) := by
      have : ((0 : Int) : Rat) ≤ (T : Rat) := Rat.intCast_le_intCast.2 (by omega)
      simpa using this
    have h4 : 0 ≤ s * (T : Rat) := Rat.mul_nonneg h0 hTr
    rw [Rat.intCast_mul, hk] at h3
    have hkI : (((k : Nat) : Int) : Rat) = ((k : Nat) : Rat) := rfl
    rw [hkI, Rat.mul_comm (T : Rat)] at h3
    rw [Rat.add_mul] at h2
    grind
theorem pb_step {T p q : Int} {s : Rat} (hT : 1 ≤ T) (hp : 0 ≤ p) (hpq : q < p + T) (h0 : 0 ≤ s) (h1 : s < 1) : pb T s q ≤ pb T s p + 1 := by
  by_cases e : pb T s q ≤ pb T s p + 1
  · exact e
  · exfalso
    have hp0 := pb_nonneg (s := s) hT hp
    obtain ⟨k, hk⟩ : ∃ k : Nat, pb T s p = (k : Int) := ⟨(pb T s p).toNat, by omega⟩
    have h2 := (pb_iff (place := q) hT h0 h1 (k + 1)).2 (by omega)
    have h3 : (q : Rat) < ((p + T : Int) : Rat) := Rat.intCast_lt_intCast.2 hpq
    have h4 : ¬ (s + (k : Rat)) * (T : Rat) < (p : Rat) := fun h => by have := (pb_iff (place := p) hT h0 h1 k).1 h; omega
    rw [Rat.intCast_add] at h3
    have hk1 : ((k + 1 : Nat) : Rat) = (k : Rat) + 1 := by
      have : (((k + 1 : Nat) : Int) : Rat) = (((k : Nat) : Int) : Rat) + ((1 : Int) : Rat) := by rw [← Rat.intCast_add]; rfl
      exact this
    rw [hk1, ← Rat.add_assoc, Rat.add_mul (s + (k : Rat)), Rat.one_mul] at h2
    grind
/-- a unit that is not certain is drawn -/
def selB (x : Nat → Int) (C : List Nat) (M T : Int) (s : Rat) (i : Nat) : Bool := decide (pb T s (lays x C M i).2 < pb T s ((lays x C M i).2 + x i * M))
def hitB (x : Nat → Int) (C : List Nat) (M T : Int) (s : Rat) (i : Nat) : Bool := decide (i ∈ C) || selB x C M T s i
/-- the sample -/
def drawL (x : Nat → Int) (C : List Nat) (M T : Int) (s : Rat) (N : Nat) : List Nat := (List.range N).filter (hitB x C M T s)
theorem drawL_succ (x : Nat → Int) (C : List Nat) (M T : Int) (s : Rat) (i : Nat) : drawL x C M T s (i + 1) = drawL x C M T s i ++ (if hitB x C M T s i = true then [i] else []) := by
  unfold drawL
  rw [List.range_succ, List.filter_append]
  congr 1
  cases h : hitB x C M T s i <;> simp [h]
/-- the pieces are those of the units that are not certain -/
theorem lays_form (x : Nat → Int) (C : List Nat) (M : Int) : ∀ i, (lays x C M i).1 = ((List.range i).filter (fun u => !decide (u ∈ C))).map (fun u => (u, (lays x C M u).2, (lays x C M u).2 + x u * M)) := by
  intro i
  induction i with
  | zero => rfl
  | succ i ih =>
    rw [List.range_succ, List.filter_append, List.map_append, ← ih]
    by_cases h : i ∈ C
    · rw [lays_in h]
      simp [h]
    · rw [lays_out h]
      simp [h]
theorem lays_sum (x : Nat → Int) (C : List Nat) (M : Int) : ∀ i, (lays x C M i).2 = ((List.range i).map (fun u => if u ∈ C then 0 else x u)).sum * M := by
  intro i
  induction i with
  | zero => simp [lays]
  | succ i ih =>
    rw [List.range_succ, List.map_append, List.sum_append]
    simp only [List.map_cons, List.map_nil, List.sum_cons, List.sum_nil, Int.add_zero]
    rw [Int.add_mul, ← ih]
    by_cases h : i ∈ C
    · rw [lays_in h, if_pos h]; simp
    · rw [lays_out h, if_neg h]
theorem lays_total {N : Nat} {x : Nat → Int} {od : List Nat} (h : Ord N x od) {K : Nat} (M : Int) : (lays x (od.take K) M N).2 = T x od K * M := by
  rw [lays_sum]
  congr 1
  rw [sum_perm ((h.perm.symm).map _)]
  have hsp : ∀ f : Nat → Int, (od.map f).sum = ((od.take K).map f).sum + ((od.drop K).map f).sum := fun f => by rw [← List.sum_append, ← List.map_append, List.take_append_drop]
  rw [hsp, sum_const (od.take K) _ 0 (fun i hi => if_pos hi)]
  have hnd := h.nodup
  rw [← List.take_append_drop K od, List.nodup_append] at hnd
  rw [sum_mul (od.drop K) _ x 1 (fun i hi => by rw [Int.mul_one]; exact if_neg (fun h2 => hnd.2.2 i h2 i hi rfl))]
  unfold T
  omega
theorem lays_up {N : Nat} {x : Nat → Int} {C : List Nat} {M : Int} (hM : 0 ≤ M) (hx : ∀ i, i < N → 1 ≤ x i) : ∀ d i, i + d ≤ N → (lays x C M i).2 ≤ (lays x C M (i + d)).2 := by
  intro d
  induction d with
  | zero => intro i _; exact Int.le_refl _
  | succ d ih =>
    intro i hi
    have h1 := ih i (by omega)
    rw [show i + (d + 1) = (i + d) + 1 by omega]
    by_cases h : i + d ∈ C
    · rw [lays_in h]; exact h1
    · rw [lays_out h]
      have := Int.mul_nonneg (show 0 ≤ x (i + d) by have := hx (i + d) (by omega); omega) hM
      show _ ≤ (lays x C M (i + d)).2 + x (i + d) * M
      omega
/-- once all points are passed, no later unit is drawn -/
theorem sel_end {N : Nat} {x : Nat → Int} {C : List Nat} {M T : Int} {s : Rat} (hT : 1 ≤ T) (hM : 0 ≤ M) (hx : ∀ i, i < N → 1 ≤ x i) (htot : (lays x C M N).2 = T * M) (h0 : 0 ≤ s) (h1 : s < 1) {i j : Nat} (hij : i ≤ j) (hj : j < N) (hc : ¬ j ∈ C) (he : pb T s (lays x C M i).2 = M) (hp : 0 ≤ (lays x C M i).2) : selB x C M T s j = false := by
  unfold selB
  apply decide_eq_false
  have a1 := lays_up (C := C) hM hx (j - i) i (by omega)
  rw [show i + (j - i) = j by omega] at a1
  have a2 := pb_mono (s := s) hT hp a1 h0 h1
  have a3 := lays_up (C := C) hM hx (N - (j + 1)) (j + 1) (by omega)
  rw [show j + 1 + (N - (j + 1)) = N by omega, htot, lays_out hc] at a3
  have a4 := pb_top (s := s) hT hM a3 h0 h1
  simp only at a4
  omega
theorem sorted_unique : ∀ (l m : List Nat), l.Perm m → l.Pairwise (· < ·) → m.Pairwise (· < ·) → l = m
  | [], m, hp, _, _ => (List.Perm.nil_eq hp)
  | a :: l, [], hp, _, _ => by have := hp.length_eq; simp at this
  | a :: l, b :: m, hp, h1, h2 => by
    rw [List.pairwise_cons] at h1 h2
    have e : a = b := by
      have ha : a ∈ b :: m := hp.mem_iff.1 List.mem_cons_self
      have hb : b ∈ a :: l := hp.mem_iff.2 List.mem_cons_self
      rcases List.mem_cons.1 ha with h | h
      · exact h
      · rcases List.mem_cons.1 hb with h' | h'
        · exact h'.symm
        · have := h2.1 a h
          have := h1.1 b h'
          omega
    subst e
    rw [sorted_unique l m (List.Perm.cons_inv hp) h1.2 h2.2]
end Go.Proofs.Ytcnghhlchjcdhaa.Dr
/- How many points lie before a place. -/
namespace Go.Proofs.Ytcnghhlchjcdhaa.Dr
open Go.RowKit Go.Sort C6

end Go.Proofs.Ytcnghhlchjcdhaa.Dr
/- The units whose pieces hold a point. -/
namespace Go.Proofs.Ytcnghhlchjcdhaa.Dr
open Go.RowKit Go.Sort C6

/-- the units whose pieces hold a point -/
def selP (T : Int) (q : Rat) (l : List Pc) : List Nat := (l.filter (fun p => decide (pb T q p.2.1 < pb T q p.2.2))).map (fun p => p.1)
theorem selP_take {T : Int} {q : Rat} {l : List Pc} {i : Nat} (h : i < l.length) : selP T q (l.take (i + 1)) = selP T q (l.take i) ++ (if pb T q (l[i]).2.1 < pb T q (l[i]).2.2 then [(l[i]).1] else []) := by
  unfold selP
  rw [List.take_succ_eq_append_getElem h, List.filter_append, List.map_append]
  congr 1
  by_cases e : pb T q (l[i]).2.1 < pb T q (l[i]).2.2
  · simp [e]
  · simp [e]
theorem selP_len (T : Int) (q : Rat) (l : List Pc) : (selP T q l).length ≤ l.length := by
  unfold selP
  rw [List.length_map]
  exact List.length_filter_le _ _
theorem selP_end {T : Int} {q : Rat} {l : List Pc} {i : Nat} (h : ∀ j (hj : j < l.length), i ≤ j → ¬ pb T q (l[j]).2.1 < pb T q (l[j]).2.2) : selP T q (l.take i) = selP T q l := by
  have e : (l.drop i).filter (fun p => decide (pb T q p.2.1 < pb T q p.2.2)) = [] := List.filter_eq_nil_iff.2 (fun p hp => by
    obtain ⟨j, hj, rfl⟩ := List.mem_iff_getElem.1 hp
    rw [List.getElem_drop]
    have := h (i + j) (by rw [List.length_drop] at hj; omega) (by omega)
    simpa using this)
  unfold selP
  conv => rhs; rw [← List.take_append_drop i l]
  rw [List.filter_append, List.map_append, e]
  simp
def SelPost (L : List Nat) (w : World) (e : Ending) (w' : World) : Prop := ∃ (a : Option Addr) (n c : Nat), e = .returned (.slice a n c) ∧ n = L.length ∧ w'.ownsRow w.heap.size 3 1 (.slice a n c) n (intz (iz L)) ∧ Below w.heap.size w w'

end Go.Proofs.Ytcnghhlchjcdhaa.Dr
/- The sample as the code builds it: pieces that hold a point, the certain ones behind them, sorted. -/
namespace Go.Proofs.Ytcnghhlchjcdhaa.Dr
open Go.RowKit Go.Sort C6

/-- the units that are not certain -/
def outs (C : List Nat) (N : Nat) : List Nat := (List.range N).filter (fun u => !decide (u ∈ C))
theorem outs_up (C : List Nat) (N : Nat) : (outs C N).Pairwise (· < ·) := List.Pairwise.filter _ List.pairwise_lt_range
theorem outs_mem {C : List Nat} {N u : Nat} : u ∈ outs C N ↔ u < N ∧ ¬ u ∈ C := by simp [outs]
theorem lays_outs (x : Nat → Int) (C : List Nat) (M : Int) (N : Nat) : (lays x C M N).1 = (outs C N).map (fun u => (u, (lays x C M u).2, (lays x C M u).2 + x u * M)) := lays_form x C M N
theorem selP_lays (x : Nat → Int) (C : List Nat) (M T : Int) (q : Rat) (N : Nat) : selP T q (lays x C M N).1 = (outs C N).filter (selB x C M T q) := by
  unfold selP
  rw [lays_outs, List.filter_map, List.map_map]
  exact List.map_id _
theorem draw_perm {N : Nat} {x : Nat → Int} {od : List Nat} (h : Ord N x od) {K : Nat} (M T : Int) (q : Rat) : (selP T q (lays x (od.take K) M N).1 ++ od.take K).Perm (drawL x (od.take K) M T q N) := by
  have hn : (od.take K).Nodup := (List.take_sublist K od).nodup h.nodup
  have hp : ((outs (od.take K) N).filter (selB x (od.take K) M T q)).Nodup := ((outs_up _ _).filter _).imp (fun h => Nat.ne_of_lt h)
  rw [selP_lays]
  refine (List.perm_ext_iff_of_nodup ?_ ?_).2 ?_
  · rw [List.nodup_append]
    refine ⟨hp, hn, fun a ha b hb e => ?_⟩
    subst e
    exact (outs_mem.1 (List.mem_filter.1 ha).1).2 hb
  · exact (List.pairwise_lt_range.filter _).imp (fun h => Nat.ne_of_lt h)
  · intro u
    unfold drawL hitB
    rw [List.mem_append, List.mem_filter, List.mem_filter, outs_mem, List.mem_range]
    constructor
    · rintro (⟨⟨h1, h2⟩, h3⟩ | h1)
      · exact ⟨h1, by simp [h3]⟩
      · exact ⟨h.lt (List.mem_of_mem_take h1), by simp [h1]⟩
    · rintro ⟨h1, h2⟩
      by_cases e : u ∈ od.take K
      · exact .inr e
      · exact .inl ⟨⟨h1, e⟩, by simpa [e] using h2⟩
theorem drawL_up (x : Nat → Int) (C : List Nat) (M T : Int) (q : Rat) (N : Nat) : (drawL x C M T q N).Pairwise (· < ·) := List.pairwise_lt_range.filter _
theorem sort_draw {l m : List Nat} (hp : l.Perm m) (hm : m.Pairwise (· < ·)) : (iz l).mergeSort (fun x y => decide (x ≤ y)) = iz m := by
  refine List.Perm.eq_of_pairwise (le := fun (a b : Int) => a ≤ b) (fun a b _ _ h1 h2 => by omega) ?_ ?_ ((List.mergeSort_perm _ _).trans (hp.map _))
  · have := List.pairwise_mergeSort (le := fun (a b : Int) => decide (a ≤ b)) (fun a b c h1 h2 => by simp at *; omega) (fun a b => by simp; omega) (iz l)
    exact this.imp (fun h => by simpa using h)
  · unfold iz
    rw [List.pairwise_map]
    exact hm.imp (fun h => by omega)
theorem wp_append_nil {P : Program} {o : Oper} {a : Act} {w : World} {K : Act → World → Prop} {Q : Exit → Act → World → Prop} (s x : Operand) (t : TypeId)
    (ho : o.op = .call { callee := .builtin .append, args := #[s, x], argTypes := #[t, t] })
    (e : TypeId) (i : TypeInfo) (ht : P.underlying t = some (.slice e)) (hi : P.info? e = some i)
    (b : Option Addr) (n cap : Nat) (hle : n ≤ cap) (hs : a.eval s = .slice b n cap) (hx : a.eval x = .slice none 0 0)
    (h : K (a.put o.dst (.slice b n cap)) w) : Oper.wp P o a w K Q := by
  have hrun : (Builtin.append_ #[t, t] o.type #[.slice b n cap, .slice none 0 0]).run P w = .ok (.slice b n cap) w := by
    cases b <;> simp [Builtin.append_, run_underlying ht, sizeOf, typeInfo, hi, Builtin.lenOf, hle, Builtin.firstCells, storeCells]
  unfold Oper.wp
  simp [execOp, ho, resolve, invoke, builtin, hs, hx, hrun, Result.andThen]
  exact h
/-- a row of integers, those that a slice reads behind it -/
theorem wp_append_rd {o : Oper} {a : Act} {w : World} {K : Act → World → Prop} {Q : Exit → Act → World → Prop} (s x : Operand) (t : TypeId)
    (ho : o.op = .call { callee := .builtin .append, args := #[s, x], argTypes := #[t, t] }) (ht : Try.prog.underlying t = some (.slice 3))
    {base n c : Nat} {b : Option Addr} {ss : List Int} (hs : a.eval s = .slice b n c) (h : w.ownsRow base 3 1 (.slice b n c) n (intz ss)) (hn : n ≤ 100000) (hbase : base ≤ w.heap.size)
    {ca : Option Addr} {m cc : Nat} {ys : List Int} (hx : a.eval x = .slice ca m cc) (hm : ys.length = m) (hm2 : m ≤ 100000) (hr : RdZ w ca cc ys)
    (hk : ∀ b' c' w', w'.ownsRow base 3 1 (.slice b' (n + m) c') (n + m) (intz (ss ++ ys)) → w.grownBy w' (Value.ownBlock (.slice b n c)) → K (a.put o.dst (.slice b' (n + m) c')) w') : Oper.wp Try.prog o a w K Q := by
  obtain ⟨i0, hi, hz0, hz1, hz2⟩ := info_partsr infoInt10
  have hsum : intz (ss ++ ys) = intz ss ++ intz ys := by simp [intz]
  cases ca with
  | none =>
    have hy : ys = [] := by
      rcases hr.2.2 with ⟨e, _⟩ | ⟨b, o, e, _⟩
      · simpa [intz] using e
      · cases e
    have hc0 : cc = 0 := by
      rcases hr.2.2 with ⟨_, e⟩ | ⟨b, o, e, _⟩
      · exact e rfl
      · cases e
    subst hy hc0
    obtain rfl : m = 0 := by simpa using hm.symm
    have hle : n ≤ c := by
      rcases h.2 with ⟨e, h0⟩ | ⟨g, cap, cur, e, hb, hg, hnc, hc, hs, ht⟩
      · cases e; omega
      · cases e; omega
    refine wp_append_nil s x t ho 3 i0 ht hi b n c hle hs hx ?_
    exact hk b c w (by simpa using h) ⟨rfl, rfl, rfl, Nat.le_refl _, fun _ _ _ => rfl⟩
  | some ad =>
    refine wp_append_own w s x t ho base 3 i0 (.int .i64 0) 1 8 ht hi hz0 hz1 hz2 rfl (by decide) (.slice b n c) n (intz ss) hs h ad m cc (intz ys) hx (by rw [intz_length]; omega) ?_ ?_ (by unfold maxLen; omega) (by omega) hbase ?_
    · intro j u hu
      rcases hr.2.2 with ⟨e, _⟩ | ⟨b, o, e, hcell⟩
      · rw [e] at hu; cases hu
      · cases e; rw [Addr.add_lit]; exact hcell j u hu
    · intro u hu
      obtain ⟨z, _, rfl⟩ := List.mem_map.1 hu
      rfl
    · intro v' w' ho' hg' _
      obtain ⟨b', c', rfl⟩ := row_n ho'
      exact hk b' c' w' (by rw [hsum]; exact ho') hg'
end Go.Proofs.Ytcnghhlchjcdhaa.Dr
/- sample.Systematic: up to nineteen sizes, any number, any start. -/
namespace Go.Proofs.Ytcnghhlchjcdhaa.Dr
open Go.RowKit Go.Sort C6

/-- the start is none -/
def stB (q : Rat) : Prop := sgn q < 0 ∨ 0 ≤ cq q 1
def SysPost (xs : List Int) (n : Int) (q : Rat) (w : World) (e : Ending) (w' : World) : Prop := Below w.heap.size w w' ∧
  ((drE xs n ≠ 0 ∧ e = .returned (.tuple #[.slice none 0 0, .int .i64 (drE xs n)])) ∨
   (drE xs n = 0 ∧ stB q ∧ e = .returned (.tuple #[.slice none 0 0, .int .i64 103])) ∨
   (drE xs n = 0 ∧ ¬ stB q ∧ ∃ (m : Nat) (od : List Nat) (Kc : Nat) (a : Option Addr) (L c : Nat), n = (m : Int) ∧ 1 ≤ m ∧ m ≤ xs.length ∧ szs xs = true ∧ Ord xs.length (fx xs) od ∧ Cert xs.length (fx xs) od m Kc ∧
    e = .returned (.tuple #[.slice a L c, .int .i64 0]) ∧ L = (drawL (fx xs) (od.take Kc) ((m : Int) - (Kc : Int)) (T (fx xs) od Kc) q xs.length).length ∧ RdZ w' a c (iz (drawL (fx xs) (od.take Kc) ((m : Int) - (Kc : Int)) (T (fx xs) od Kc) q xs.length))))

end Go.Proofs.Ytcnghhlchjcdhaa.Dr
/- The sample as the document describes it: a unit is drawn at each point that its part of the line holds. -/
namespace Go.Proofs.Ytcnghhlchjcdhaa.Dr

/-- where a unit's part of the line begins -/
def lowS (x : Nat → Int) (C : List Nat) (i : Nat) : Int := ((List.range i).map (fun u => if u ∈ C then 0 else x u)).sum
theorem lowS_zero (x : Nat → Int) (C : List Nat) : lowS x C 0 = 0 := rfl
theorem lowS_succ (x : Nat → Int) (C : List Nat) (i : Nat) : lowS x C (i + 1) = lowS x C i + (if i ∈ C then 0 else x i) := by
  unfold lowS
  rw [List.range_succ, List.map_append, List.sum_append]
  simp
theorem lowS_lays (x : Nat → Int) (C : List Nat) (M : Int) (i : Nat) : (lays x C M i).2 = lowS x C i * M := lays_sum x C M i
theorem lowS_bd {x : Nat → Int} {C : List Nat} {N : Nat} (hx : ∀ i, i < N → 1 ≤ x i ∧ x i ≤ 1099511627776) : ∀ i, i ≤ N → 0 ≤ lowS x C i ∧ lowS x C i ≤ (i : Int) * 1099511627776 := by
  intro i
  induction i with
  | zero => intro _; rw [lowS_zero]; omega
  | succ i ih =>
    intro hi
    have h1 := ih (by omega)
    have h2 := hx i (by omega)
    rw [lowS_succ]
    split <;> omega
/-- a point before a place -/
theorem at_lt {A M p : Int} {q : Rat} (hA : 1 ≤ A) (hM : 1 ≤ M) (h0 : 0 ≤ q) (h1 : q < 1) (k : Nat) : cq ((q + (k : Rat)) * fq A M) (p : Rat) < 0 ↔ (k : Int) < pb A q (p * M) := by
  have hMr : (0 : Rat) < (M : Rat) := by
    have : ((0 : Int) : Rat) < (M : Rat) := Rat.intCast_lt_intCast.2 (by omega)
    simpa using this
  rw [cq_neg_iff, ← pb_iff hA h0 h1 k, fq_div (by omega) (by omega), Rat.intCast_mul]
  have e : (q + (k : Rat)) * ((A : Rat) / (M : Rat)) = ((q + (k : Rat)) * (A : Rat)) / (M : Rat) := by
    rw [Rat.div_def, Rat.div_def, Rat.mul_assoc]
  rw [e, Rat.div_lt_iff hMr]
/-- the units drawn once k points were held against unit i -/
def hitK (x : Nat → Int) (C : List Nat) (M A : Int) (q : Rat) (i k : Nat) : List Nat := drawL x C M A q i ++ (if selB x C M A q i = true ∧ pb A q (lays x C M i).2 < (k : Int) then [i] else [])
theorem hitK_zero {x : Nat → Int} {C : List Nat} {M A : Int} {q : Rat} {i : Nat} (hA : 1 ≤ A) (h : 0 ≤ (lays x C M i).2) : hitK x C M A q i 0 = drawL x C M A q i := by
  have := pb_nonneg (s := q) hA h
  unfold hitK
  rw [if_neg (fun h2 => by have := h2.2; omega), List.append_nil]
theorem hitK_len (x : Nat → Int) (C : List Nat) (M A : Int) (q : Rat) (i k : Nat) : (hitK x C M A q i k).length ≤ i + 1 := by
  unfold hitK
  rw [List.length_append]
  have h1 : (drawL x C M A q i).length ≤ i := by
    unfold drawL
    refine Nat.le_trans (List.length_filter_le _ _) ?_
    rw [List.length_range]; exact Nat.le_refl _
  split <;> simp <;> omega
/-- a point is held against a unit -/
def isHit (x : Nat → Int) (C : List Nat) (M A : Int) (q : Rat) (i k : Nat) : Prop := ¬ (k : Int) < pb A q (lays x C M i).2 ∧ (k : Int) < pb A q ((lays x C M i).2 + x i * M)
theorem hitK_hit {x : Nat → Int} {C : List Nat} {M A : Int} {q : Rat} {i k : Nat} (hA : 1 ≤ A) (hl : 0 ≤ (lays x C M i).2) (hx : x i * M < A) (h0 : 0 ≤ q) (h1 : q < 1) (h : isHit x C M A q i k) : hitK x C M A q i (k + 1) = hitK x C M A q i k ++ [i] := by
  have hs := pb_step (p := (lays x C M i).2) (q := (lays x C M i).2 + x i * M) hA hl (by omega) h0 h1
  obtain ⟨g1, g2⟩ := h
  have e : selB x C M A q i = true := decide_eq_true (by omega)
  unfold hitK
  rw [if_pos ⟨e, by omega⟩, if_neg (fun h2 => by have := h2.2; omega), List.append_nil]
theorem hitK_not {x : Nat → Int} {C : List Nat} {M A : Int} {q : Rat} {i k : Nat} (h : ¬ isHit x C M A q i k) : hitK x C M A q i (k + 1) = hitK x C M A q i k := by
  unfold hitK
  congr 1
  by_cases e : selB x C M A q i = true
  · have e2 : pb A q (lays x C M i).2 < pb A q ((lays x C M i).2 + x i * M) := of_decide_eq_true e
    by_cases e3 : pb A q (lays x C M i).2 < (k : Int)
    · rw [if_pos ⟨e, by omega⟩, if_pos ⟨e, e3⟩]
    · rw [if_neg (fun h2 => by
        have h3 := h2.2
        exact h ⟨by omega, by omega⟩), if_neg (fun h2 => e3 h2.2)]
  · rw [if_neg (fun h2 => e h2.1), if_neg (fun h2 => e h2.1)]
theorem hitK_all {N : Nat} {x : Nat → Int} {od : List Nat} {K : Nat} {M : Int} {q : Rat} {i m : Nat} (ho : Ord N x od) (hA : 1 ≤ T x od K) (hm : M = (m : Int)) (hx : ∀ i, i < N → 1 ≤ x i ∧ x i ≤ 1099511627776) (h0 : 0 ≤ q) (h1 : q < 1) (hi : i < N) (hc : ¬ i ∈ od.take K) :
    hitK x (od.take K) M (T x od K) q i m = drawL x (od.take K) M (T x od K) q (i + 1) := by
  rw [drawL_succ]
  unfold hitK
  congr 1
  have e : hitB x (od.take K) M (T x od K) q i = selB x (od.take K) M (T x od K) q i := by simp [hitB, hc]
  rw [e]
  by_cases e2 : selB x (od.take K) M (T x od K) q i = true
  · rw [if_pos e2]
    have e3 : pb (T x od K) q (lays x (od.take K) M i).2 < pb (T x od K) q ((lays x (od.take K) M i).2 + x i * M) := of_decide_eq_true e2
    have a1 := lays_up (C := od.take K) (M := M) (by omega) (fun i hi => (hx i hi).1) (N - (i + 1)) (i + 1) (by omega)
    rw [show i + 1 + (N - (i + 1)) = N by omega, lays_total ho M, lays_out hc] at a1
    simp only at a1
    have a2 := pb_top (s := q) hA (by omega) a1 h0 h1
    rw [if_pos ⟨e2, by omega⟩]
  · rw [if_neg e2, if_neg (fun h2 => e2 h2.1)]
end Go.Proofs.Ytcnghhlchjcdhaa.Dr
/- The reference's quotient; its samples that are none. -/
namespace Go.Proofs.Ytcnghhlchjcdhaa.Dr
open Go.RowKit Go.Sort C6

/-- an error of the sizes, the number or the start -/
def sysE (xs : List Int) (n : Int) (_q : Rat) : Int := if drE xs n ≠ 0 then drE xs n else 103
end Go.Proofs.Ytcnghhlchjcdhaa.Dr
/- Systematic of the reference: a sample. -/
namespace Go.Proofs.Ytcnghhlchjcdhaa.Dr
open Go.RowKit Go.Sort C6

theorem rq_int (n : Int) : rq (decide (n < 0)) n.natAbs 1 = (n : Rat) := by
  unfold rq
  have e : sg (decide (n < 0)) n.natAbs = n := by
    show (if _ then _ else _) = _
    by_cases h : n < 0
    · rw [decide_eq_true h, if_pos rfl]; omega
    · rw [decide_eq_false h, if_neg (by decide)]; omega
  rw [e, Rat.mkRat_one]
theorem rFromInt_z (n : Int) (h0 : -9223372036854775808 ≤ n) (h1 : n ≤ 9223372036854775807) (w : World) : Calls Try.prog 17 #[.int .i64 n] w (MakesQ (n : Rat) 2 w) := by
  have h := rFromInt_q n h0 h1 w
  rwa [rq_int] at h
theorem Cert.less {N : Nat} {x : Nat → Int} {od : List Nat} {m K : Nat} (c : Cert N x od m K) (h : Ord N x od) (hx : ∀ i, i < N → 1 ≤ x i ∧ x i ≤ 1099511627776) (hK : K < N) {i : Nat} (hi : i < N) (hn : i ∉ od.take K) : x i * ((m : Int) - (K : Int)) < T x od K := by
  have h1 := (h.best hK hi hn).1
  have h2 := c.stop hK
  have h3 := c.K_le h hx
  have h4 : x i * ((m : Int) - (K : Int)) ≤ x (od.getD K 0) * ((m : Int) - (K : Int)) := Int.mul_le_mul_of_nonneg_right h1 (by omega)
  omega

end Go.Proofs.Ytcnghhlchjcdhaa.Dr
/- What the code's Systematic gives the reference's gives, too. -/
namespace Go.Proofs.Ytcnghhlchjcdhaa.Dr
open Go.RowKit Go.Sort C6

theorem RdZ_nil (w : World) : RdZ w none 0 [] := ⟨by simp [intz], by omega, .inl ⟨by simp [intz], fun _ => rfl⟩⟩
end Go.Proofs.Ytcnghhlchjcdhaa.Dr
