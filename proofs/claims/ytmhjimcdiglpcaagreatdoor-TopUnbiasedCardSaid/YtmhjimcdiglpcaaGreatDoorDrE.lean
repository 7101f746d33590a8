import Derived.Test.YtmhjimcdiglpcaaGreatDoorDrB
import Derived.Test.YtmhjimcdiglpcaaGreatDoorMaths
import Derived.Test.YtmhjimcdiglpcaaGreatDoorEstA
import Derived.Test.YtmhjimcdiglpcaaGreatDoorDrC
import Derived.WalkMore
import Derived.Sort.OwnSortedInts
import Derived.Test.YtmhjimcdiglpcaaGreatDoorBoxA
/- The probabilities of a draw: over one denominator, above 0, at most 1, not less for greater units, and their sum. -/
namespace Go.Proofs.YtmhjimcdiglpcaaGreatDoor.Dr

theorem Ord.desc {N : Nat} {x : Nat → Int} {od : List Nat} (h : Ord N x od) {a b : Nat} (hab : a ≤ b) (hb : b < N) : x (od.getD b 0) ≤ x (od.getD a 0) := by
  by_cases e : a = b
  · rw [e]; exact Int.le_refl _
  · have h1 : a < od.length := by rw [h.len]; omega
    have h2 : b < od.length := by rw [h.len]; omega
    have := List.pairwise_iff_getElem.1 h.srt a b h1 h2 (by omega)
    simp [List.getD, h1, h2]
    omega
theorem Cert.m_pos {N : Nat} {x : Nat → Int} {od : List Nat} {m K : Nat} (c : Cert N x od m K) (h : Ord N x od) (hx : ∀ i, i < N → 1 ≤ x i ∧ x i ≤ 1099511627776) (hm : 1 ≤ m) (hK : K < N) : 1 ≤ (m : Int) - (K : Int) := by
  have hle := c.K_le h hx
  by_cases e : K < m
  · omega
  · exfalso
    have e2 : K = m := by omega
    obtain ⟨j, hj⟩ : ∃ j, K = j + 1 := ⟨K - 1, by omega⟩
    have h1 := c.go j (by omega)
    rw [show (m : Int) - (j : Int) = 1 by omega, Int.mul_one, T_next h (show j < N by omega)] at h1
    have h2 := (T_bd h hx (N - (j + 1)) (j + 1) (by omega)).1
    omega
theorem Cert.low {N : Nat} {x : Nat → Int} {od : List Nat} {m K : Nat} (c : Cert N x od m K) (h : Ord N x od) (hx : ∀ i, i < N → 1 ≤ x i ∧ x i ≤ 1099511627776) (hm : 1 ≤ m) (hK : K < N) {i : Nat} (hi : i < N) (hn : i ∉ od.take K) : x i * ((m : Int) - (K : Int)) ≤ T x od K := by
  have h1 := (h.best hK hi hn).1
  have h2 := c.stop hK
  have h3 := c.m_pos h hx hm hK
  have h4 := Int.mul_le_mul_of_nonneg_right h1 (show 0 ≤ (m : Int) - (K : Int) by omega)
  omega
theorem Cert.apart {N : Nat} {x : Nat → Int} {od : List Nat} {m K : Nat} (c : Cert N x od m K) (h : Ord N x od) (hK : K < N) {i k : Nat} (hi : i < N) (hn : i ∉ od.take K) (hk : k ∈ od.take K) : x i < x k := by
  have h1 := (h.best hK hi hn).1
  obtain ⟨j, hj, rfl⟩ := List.mem_take_iff_getElem.1 hk
  have hjK : j < K := by omega
  have hjl : j < od.length := by omega
  have e : od[j] = od.getD j 0 := by simp [List.getD, hjl]
  rw [e]
  obtain ⟨q, hq⟩ : ∃ q, K = q + 1 := ⟨K - 1, by omega⟩
  have h2 := h.desc (show j ≤ q by omega) (show q < N by omega)
  have h3 := h.desc (show q ≤ K by omega) hK
  by_cases e2 : x i < x (od.getD j 0)
  · exact e2
  · exfalso
    have h4 : x (od.getD q 0) = x (od.getD K 0) := by omega
    have h5 := c.go q (by omega)
    have h6 := c.stop hK
    rw [T_next h (show q < N by omega), ← hq, h4] at h5
    have h7 : x (od.getD K 0) * ((m : Int) - (q : Int)) = x (od.getD K 0) * ((m : Int) - (K : Int)) + x (od.getD K 0) := by
      rw [show (m : Int) - (q : Int) = ((m : Int) - (K : Int)) + 1 by omega, Int.mul_add, Int.mul_one]
    omega
theorem sum_const (l : List Nat) (f : Nat → Int) (a : Int) (h : ∀ i ∈ l, f i = a) : (l.map f).sum = (l.length : Int) * a := by
  induction l with
  | nil => simp
  | cons b l ih =>
    rw [List.map_cons, List.sum_cons, ih (fun i hi => h i (List.mem_cons_of_mem _ hi)), h b List.mem_cons_self, List.length_cons, Int.natCast_add, Int.add_mul]
    omega
theorem sum_mul (l : List Nat) (f g : Nat → Int) (a : Int) (h : ∀ i ∈ l, f i = g i * a) : (l.map f).sum = (l.map g).sum * a := by
  induction l with
  | nil => simp
  | cons b l ih =>
    rw [List.map_cons, List.sum_cons, ih (fun i hi => h i (List.mem_cons_of_mem _ hi)), h b List.mem_cons_self, List.map_cons, List.sum_cons, Int.add_mul]
/-- over one denominator -/
theorem prob_repr {N : Nat} {x : Nat → Int} {od : List Nat} {m K : Nat} (h : Ord N x od) (c : Cert N x od m K) (hx : ∀ i, i < N → 1 ≤ x i ∧ x i ≤ 1099511627776) (hm : 1 ≤ m) (hmN : m ≤ N) : ∃ (D : Nat) (y : Nat → Int), 0 < D ∧
    (∀ i, i < N → incQ x od K ((m : Int) - (K : Int)) i = mkRat (y i) D ∧ 0 < y i ∧ y i ≤ (D : Int)) ∧ (∀ i k, i < N → k < N → x k ≤ x i → y k ≤ y i) ∧ ((List.range N).map y).sum = (m : Int) * (D : Int) := by
  by_cases hK : K < N
  · have hb := T_bd h hx (N - K) K (by omega)
    obtain ⟨A, hA⟩ : ∃ A, A = T x od K := ⟨_, rfl⟩
    have hM := c.m_pos h hx hm hK
    rw [← hA] at hb
    have hA1 : 1 ≤ A := by omega
    have hD : ((A.toNat : Nat) : Int) = A := by omega
    refine ⟨A.toNat, fun i => if i ∈ od.take K then A else x i * ((m : Int) - (K : Int)), by omega, fun i hi => ?_, fun i k hi hk hle => ?_, ?_⟩
    · unfold incQ
      by_cases e : i ∈ od.take K
      · simp only [if_pos e]
        refine ⟨?_, by omega, by omega⟩
        have : mkRat A A.toNat = 1 := by
          have h1 : mkRat A A.toNat = mkRat 1 1 := (Rat.mkRat_eq_iff (by omega) (by omega)).2 (by omega)
          rw [h1]; rfl
        exact this.symm
      · simp only [if_neg e]
        have hxi := hx i hi
        have hlow := c.low h hx hm hK hi e
        rw [← hA] at hlow ⊢
        have hpos : 0 < x i * ((m : Int) - (K : Int)) := Int.mul_pos (by omega) (by omega)
        refine ⟨?_, hpos, by omega⟩
        unfold fq rq
        rw [decide_eq_false (show ¬ x i * ((m : Int) - (K : Int)) < 0 by omega), decide_eq_false (show ¬ A < 0 by omega)]
        rw [show A.natAbs = A.toNat by omega]
        congr 1
        show (if _ then _ else _) = _
        rw [if_neg (by decide)]
        omega
    · by_cases ei : i ∈ od.take K
      · simp only [if_pos ei]
        by_cases ek : k ∈ od.take K
        · rw [if_pos ek]; exact Int.le_refl _
        · rw [if_neg ek, hA]; exact c.low h hx hm hK hk ek
      · simp only [if_neg ei]
        by_cases ek : k ∈ od.take K
        · exfalso
          have := c.apart h hK hi ei ek
          omega
        · rw [if_neg ek]
          exact Int.mul_le_mul_of_nonneg_right hle (by omega)
    · rw [sum_perm ((h.perm.symm).map _)]
      obtain ⟨f, hf⟩ : ∃ f : Nat → Int, f = fun i => if i ∈ od.take K then A else x i * ((m : Int) - (K : Int)) := ⟨_, rfl⟩
      rw [← hf]
      have hsp : (od.map f).sum = ((od.take K).map f).sum + ((od.drop K).map f).sum := by rw [← List.sum_append, ← List.map_append, List.take_append_drop]
      rw [hsp]
      have hKl : (od.take K).length = K := by rw [List.length_take, h.len]; omega
      rw [sum_const (od.take K) f A (fun i hi => by rw [hf]; simp only [if_pos hi]), hKl]
      have hnd := h.nodup
      rw [← List.take_append_drop K od, List.nodup_append] at hnd
      rw [sum_mul (od.drop K) f x ((m : Int) - (K : Int)) (fun i hi => by rw [hf]; exact if_neg (fun h2 => hnd.2.2 i h2 i hi rfl))]
      rw [show ((od.drop K).map x).sum = A from hA.symm, hD, Int.mul_comm A, ← Int.add_mul]
      congr 1
      omega
  · have hKN : K = N := by have := c.le; omega
    have hKm := c.K_le h hx
    refine ⟨1, fun _ => 1, by omega, fun i hi => ?_, fun _ _ _ _ _ => Int.le_refl _, ?_⟩
    · unfold incQ
      rw [if_pos (by rw [hKN, List.take_of_length_le (by rw [h.len]; exact Nat.le_refl _)]; exact h.mem hi)]
      exact ⟨(show (1 : Rat) = mkRat 1 1 from rfl), (show (0 : Int) < 1 by omega), (show (1 : Int) ≤ ((1 : Nat) : Int) by omega)⟩
    · rw [sum_const (List.range N) (fun _ => 1) 1 (fun _ _ => rfl), List.length_range]
      omega
theorem mk_add {a b : Int} {D : Nat} (hD : 0 < D) : mkRat a D + mkRat b D = mkRat (a + b) D := by
  rw [Rat.mkRat_add_mkRat _ _ (by omega) (by omega), ← Int.add_mul]
  exact Rat.mkRat_mul_right (by omega)
theorem sum_mk (y : Nat → Int) {D : Nat} (hD : 0 < D) (Q : Nat → Rat) : ∀ N, (∀ i, i < N → Q i = mkRat (y i) D) → qsum ((List.range N).map Q) = mkRat (((List.range N).map y).sum) D := by
  intro N
  induction N with
  | zero => intro _; simp [qsum]
  | succ N ih =>
    intro h
    rw [List.range_succ, List.map_append, List.map_append, List.sum_append]
    simp only [List.map_cons, List.map_nil, List.sum_cons, List.sum_nil]
    rw [qsum_snoc, ih (fun i hi => h i (by omega)), h N (by omega), mk_add hD, Int.add_zero]
/-- what the law asks of the probabilities -/
theorem prob_facts {N : Nat} {x : Nat → Int} {od : List Nat} {m K : Nat} (h : Ord N x od) (c : Cert N x od m K) (hx : ∀ i, i < N → 1 ≤ x i ∧ x i ≤ 1099511627776) (hm : 1 ≤ m) (hmN : m ≤ N) :
    (∀ i, i < N → sgn (incQ x od K ((m : Int) - (K : Int)) i) = 1 ∧ cq (incQ x od K ((m : Int) - (K : Int)) i) 1 ≤ 0) ∧
    (∀ i k, i < N → k < N → x k ≤ x i → 0 ≤ cq (incQ x od K ((m : Int) - (K : Int)) i) (incQ x od K ((m : Int) - (K : Int)) k)) ∧
    qsum ((List.range N).map (incQ x od K ((m : Int) - (K : Int)))) = rq (decide ((m : Int) < 0)) (m : Int).natAbs 1 := by
  obtain ⟨D, y, hD, hy, hmono, hsum⟩ := prob_repr h c hx hm hmN
  refine ⟨fun i hi => ?_, fun i k hi hk hle => ?_, ?_⟩
  · obtain ⟨h1, h2, h3⟩ := hy i hi
    rw [h1]
    refine ⟨by rw [sgn_mk hD, if_neg (by omega), if_neg (by omega)], ?_⟩
    rw [show (1 : Rat) = mkRat 1 1 from rfl, cq_mk hD (by omega)]
    split
    · omega
    · split <;> omega
  · rw [(hy i hi).1, (hy k hk).1, cq_mk hD hD]
    have := hmono i k hi hk hle
    have h4 : y k * (D : Int) ≤ y i * (D : Int) := Int.mul_le_mul_of_nonneg_right this (by omega)
    rw [if_neg (by omega)]
    split <;> omega
  · rw [sum_mk y hD _ N (fun i hi => (hy i hi).1), hsum, decide_eq_false (show ¬ (m : Int) < 0 by omega)]
    show _ = mkRat _ 1
    rw [Rat.mkRat_eq_iff (by omega) (by omega)]
    show _ = (if _ then _ else _) * _
    rw [if_neg (by decide), show ((m : Int).natAbs : Int) = (m : Int) by omega]
    omega
end Go.Proofs.YtmhjimcdiglpcaaGreatDoor.Dr
/- The points of a systematic sample: how many lie before a place. -/
namespace Go.Proofs.YtmhjimcdiglpcaaGreatDoor.Dr

theorem fq_div {a b : Int} (hb : 0 < b) (ha : 0 ≤ a) : fq a b = (a : Rat) / (b : Rat) := by
  unfold fq rq
  rw [decide_eq_false (show ¬ a < 0 by omega), decide_eq_false (show ¬ b < 0 by omega)]
  have e : sg (false != false) a.natAbs = a := by
    show (if _ then _ else _) = _
    rw [if_neg (by decide)]
    omega
  rw [e, Rat.mkRat_eq_div]
  congr 1
  have : ((b.natAbs : Nat) : Int) = b := by omega
  calc ((b.natAbs : Nat) : Rat) = (((b.natAbs : Nat) : Int) : Rat) := rfl
    _ = (b : Rat) := by rw [this]
theorem sgn_neg_iff (q : Rat) : sgn q < 0 ↔ q < 0 := by
  have hn : q.num < 0 ↔ q < 0 := by
    rw [← Int.not_le, ← Rat.not_le, Rat.num_nonneg]
  unfold sgn
  by_cases h : q.num < 0
  · rw [if_pos h]; exact ⟨fun _ => hn.1 h, fun _ => by omega⟩
  · rw [if_neg h]
    constructor
    · intro h2; split at h2 <;> omega
    · intro h2; exact absurd (hn.2 h2) h
theorem cq_neg_iff (p q : Rat) : cq p q < 0 ↔ p < q := by
  unfold cq
  rw [sgn_neg_iff]
  constructor <;> intro h <;> grind
/-- how many points lie before a place -/
def pb (T : Int) (s : Rat) (place : Int) : Int := place / T + (if cq s (fq (place % T) T) < 0 then 1 else 0)
theorem pb_rat {t T r a k : Rat} (hT : 0 < T) (h0 : 0 ≤ t) (h1 : t < T) (r0 : 0 ≤ r) (r1 : r < T) (hk : k ≤ a ∨ a + 1 ≤ k) (hk2 : k + 1 ≤ a ∨ a ≤ k) : (t < r → (t + k * T < a * T + r ↔ k ≤ a)) ∧ (¬ t < r → (t + k * T < a * T + r ↔ k + 1 ≤ a)) := by
  have m1 : k ≤ a → k * T ≤ a * T := fun h => Rat.mul_le_mul_of_nonneg_right h (Rat.le_of_lt hT)
  have m2 : a + 1 ≤ k → (a + 1) * T ≤ k * T := fun h => Rat.mul_le_mul_of_nonneg_right h (Rat.le_of_lt hT)
  have m3 : k + 1 ≤ a → (k + 1) * T ≤ a * T := fun h => Rat.mul_le_mul_of_nonneg_right h (Rat.le_of_lt hT)
  have m4 : a ≤ k → a * T ≤ k * T := fun h => Rat.mul_le_mul_of_nonneg_right h (Rat.le_of_lt hT)
  rw [Rat.add_mul, Rat.one_mul] at m2 m3
  constructor
  · intro h
    constructor
    · intro h2
      rcases hk with hk | hk
      · exact hk
      · exfalso
        have := m2 hk
        grind
    · intro h2
      have := m1 h2
      grind
  · intro h
    constructor
    · intro h2
      rcases hk2 with hk | hk
      · exact hk
      · exfalso
        have := m4 hk
        grind
    · intro h2
      have := m3 h2
      grind
theorem pb_iff {T place : Int} {s : Rat} (hT : 1 ≤ T) (h0 : 0 ≤ s) (h1 : s < 1) (k : Nat) : (s + (k : Rat)) * (T : Rat) < (place : Rat) ↔ (k : Int) < pb T s place := by
  have hTr : (0 : Rat) < (T : Rat) := by
    have : ((0 : Int) : Rat) < (T : Rat) := Rat.intCast_lt_intCast.2 (by omega)
    simpa using this
  obtain ⟨r, hr⟩ : ∃ r, r = place % T := ⟨_, rfl⟩
  obtain ⟨a, ha⟩ : ∃ a, a = place / T := ⟨_, rfl⟩
  have hr0 : 0 ≤ r := by rw [hr]; exact Int.emod_nonneg _ (by omega)
  have hr1 : r < T := by rw [hr]; exact Int.emod_lt_of_pos _ (by omega)
  have hpl : place = a * T + r := by rw [hr, ha]; have := Int.mul_ediv_add_emod place T; rw [Int.mul_comm] at this; omega
  have hr0r : (0 : Rat) ≤ (r : Rat) := by
    have : ((0 : Int) : Rat) ≤ (r : Rat) := Rat.intCast_le_intCast.2 hr0
    simpa using this
  have hr1r : (r : Rat) < (T : Rat) := Rat.intCast_lt_intCast.2 hr1
  have hplr : (place : Rat) = (a : Rat) * (T : Rat) + (r : Rat) := by rw [hpl, Rat.intCast_add, Rat.intCast_mul]
  have ht0 : 0 ≤ s * (T : Rat) := Rat.mul_nonneg h0 (Rat.le_of_lt hTr)
  have ht1 : s * (T : Rat) < (T : Rat) := by
    have := Rat.mul_lt_mul_of_pos_right h1 hTr
    rwa [Rat.one_mul] at this
  have hkI : ((k : Nat) : Rat) = ((k : Int) : Rat) := rfl
  have hle : ∀ u v : Int, ((u : Rat) ≤ (v : Rat)) ↔ u ≤ v := fun u v => Rat.intCast_le_intCast
  have hk : (k : Rat) ≤ (a : Rat) ∨ (a : Rat) + 1 ≤ (k : Rat) := by
    rw [hkI]
    by_cases e : (k : Int) ≤ a
    · exact .inl ((hle _ _).2 e)
    · right
      have := (hle (a + 1) (k : Int)).2 (by omega)
      rwa [Rat.intCast_add] at this
  have hk2 : (k : Rat) + 1 ≤ (a : Rat) ∨ (a : Rat) ≤ (k : Rat) := by
    rw [hkI]
    by_cases e : (k : Int) + 1 ≤ a
    · left
      have := (hle ((k : Int) + 1) a).2 e
      rwa [Rat.intCast_add] at this
    · exact .inr ((hle _ _).2 (by omega))
  obtain ⟨c1, c2⟩ := pb_rat hTr ht0 ht1 hr0r hr1r hk hk2
  have hsr : cq s (fq (place % T) T) < 0 ↔ s * (T : Rat) < (r : Rat) := by
    rw [cq_neg_iff, ← hr, fq_div (by omega) hr0, Rat.lt_div_iff hTr]
  unfold pb
  rw [Rat.add_mul, hplr, ← ha]
  by_cases h : s * (T : Rat) < (r : Rat)
  · rw [if_pos (hsr.2 h), c1 h, hkI, hle]
    omega
  · rw [if_neg (fun h2 => h (hsr.1 h2)), c2 h, hkI]
    have := hle ((k : Int) + 1) a
    rw [Rat.intCast_add] at this
    rw [show ((k : Int) : Rat) + 1 = ((k : Int) : Rat) + ((1 : Int) : Rat) from rfl, this]
    omega
end Go.Proofs.YtmhjimcdiglpcaaGreatDoor.Dr
/- Which units a systematic sample holds. -/
namespace Go.Proofs.YtmhjimcdiglpcaaGreatDoor.Dr

theorem pb_nonneg {T place : Int} {s : Rat} (hT : 1 ≤ T) (hp : 0 ≤ place) : 0 ≤ pb T s place := by
  unfold pb
  have := Int.ediv_nonneg hp (show 0 ≤ T by omega)
  split <;> omega
theorem pb_mono {T p q : Int} {s : Rat} (hT : 1 ≤ T) (hp : 0 ≤ p) (hpq : p ≤ q) (h0 : 0 ≤ s) (h1 : s < 1) : pb T s p ≤ pb T s q := by
  by_cases e : pb T s p ≤ pb T s q
  · exact e
  · exfalso
    have hq := pb_nonneg (s := s) hT (show 0 ≤ q by omega)
    obtain ⟨k, hk⟩ : ∃ k : Nat, pb T s q = (k : Int) := ⟨(pb T s q).toNat, by omega⟩
    have h2 := (pb_iff (place := p) hT h0 h1 k).2 (by omega)
    have h3 : (p : Rat) ≤ (q : Rat) := Rat.intCast_le_intCast.2 hpq
    have h4 := (pb_iff (place := q) hT h0 h1 k).1 (by grind)
    omega
theorem pb_top {T p M : Int} {s : Rat} (hT : 1 ≤ T) (hM : 0 ≤ M) (hp : p ≤ T * M) (h0 : 0 ≤ s) (h1 : s < 1) : pb T s p ≤ M := by
  by_cases e : pb T s p ≤ M
  · exact e
  · exfalso
    obtain ⟨k, hk⟩ : ∃ k : Nat, M = (k : Int) := ⟨M.toNat, by omega⟩
    have h2 := (pb_iff (place := p) hT h0 h1 k).2 (by omega)
    have h3 : (p : Rat) ≤ ((T * M : Int) : Rat) := Rat.intCast_le_intCast.2 hp
    have hTr : (0 : Rat) ≤ (T : Rat) := by
      have : ((0 : Int) : Rat) ≤ (T : Rat) := Rat.intCast_le_intCast.2 (by omega)
      simpa using this
    have h4 : 0 ≤ s * (T : Rat) := Rat.mul_nonneg h0 hTr
    rw [Rat.intCast_mul, hk] at h3
    have hkI : (((k : Nat) : Int) : Rat) = ((k : Nat) : Rat) := rfl
    rw [hkI, Rat.mul_comm (T : Rat)] at h3
    rw [Rat.add_mul] at h2
    grind
theorem pb_step {T p q : Int} {s : Rat} (hT : 1 ≤ T) (hp : 0 ≤ p) (hpq : q < p + T) (h0 : 0 ≤ s) (h1 : s < 1) : pb T s q ≤ pb T s p + 1 := by
  by_cases e : pb T s q ≤ pb T s p + 1
  · exact e
  · exfalso
    have hp0 := pb_nonneg (s := s) hT hp
    obtain ⟨k, hk⟩ : ∃ k : Nat, pb T s p = (k : Int) := ⟨(pb T s p).toNat, by omega⟩
    have h2 := (pb_iff (place := q) hT h0 h1 (k + 1)).2 (by omega)
    have h3 : (q : Rat) < ((p + T : Int) : Rat) := Rat.intCast_lt_intCast.2 hpq
    have h4 : ¬ (s + (k : Rat)) * (T : Rat) < (p : Rat) := fun h => by have := (pb_iff (place := p) hT h0 h1 k).1 h; omega
    rw [Rat.intCast_add] at h3
    have hk1 : ((k + 1 : Nat) : Rat) = (k : Rat) + 1 := by
      have : (((k + 1 : Nat) : Int) : Rat) = (((k : Nat) : Int) : Rat) + ((1 : Int) : Rat) := by rw [← Rat.intCast_add]; rfl
      exact this
    rw [hk1, ← Rat.add_assoc, Rat.add_mul (s + (k : Rat)), Rat.one_mul] at h2
    grind
/-- a unit that is not certain is drawn -/
def selB (x : Nat → Int) (C : List Nat) (M T : Int) (s : Rat) (i : Nat) : Bool := decide (pb T s (lays x C M i).2 < pb T s ((lays x C M i).2 + x i * M))
def hitB (x : Nat → Int) (C : List Nat) (M T : Int) (s : Rat) (i : Nat) : Bool := decide (i ∈ C) || selB x C M T s i
/-- the sample -/
def drawL (x : Nat → Int) (C : List Nat) (M T : Int) (s : Rat) (N : Nat) : List Nat := (List.range N).filter (hitB x C M T s)
theorem drawL_succ (x : Nat → Int) (C : List Nat) (M T : Int) (s : Rat) (i : Nat) : drawL x C M T s (i + 1) = drawL x C M T s i ++ (if hitB x C M T s i = true then [i] else []) := by
  unfold drawL
  rw [List.range_succ, List.filter_append]
  congr 1
  cases h : hitB x C M T s i <;> simp [h]
/-- the pieces are those of the units that are not certain -/
theorem lays_form (x : Nat → Int) (C : List Nat) (M : Int) : ∀ i, (lays x C M i).1 = ((List.range i).filter (fun u => !decide (u ∈ C))).map (fun u => (u, (lays x C M u).2, (lays x C M u).2 + x u * M)) := by
  intro i
  induction i with
  | zero => rfl
  | succ i ih =>
    rw [List.range_succ, List.filter_append, List.map_append, ← ih]
    by_cases h : i ∈ C
    · rw [lays_in h]
      simp [h]
    · rw [lays_out h]
      simp [h]
theorem lays_sum (x : Nat → Int) (C : List Nat) (M : Int) : ∀ i, (lays x C M i).2 = ((List.range i).map (fun u => if u ∈ C then 0 else x u)).sum * M := by
  intro i
  induction i with
  | zero => simp [lays]
  | succ i ih =>
    rw [List.range_succ, List.map_append, List.sum_append]
    simp only [List.map_cons, List.map_nil, List.sum_cons, List.sum_nil, Int.add_zero]
    rw [Int.add_mul, ← ih]
    by_cases h : i ∈ C
    · rw [lays_in h, if_pos h]; simp
    · rw [lays_out h, if_neg h]
theorem lays_total {N : Nat} {x : Nat → Int} {od : List Nat} (h : Ord N x od) {K : Nat} (M : Int) : (lays x (od.take K) M N).2 = T x od K * M := by
  rw [lays_sum]
  congr 1
  rw [sum_perm ((h.perm.symm).map _)]
  have hsp : ∀ f : Nat → Int, (od.map f).sum = ((od.take K).map f).sum + ((od.drop K).map f).sum := fun f => by rw [← List.sum_append, ← List.map_append, List.take_append_drop]
  rw [hsp, sum_const (od.take K) _ 0 (fun i hi => if_pos hi)]
  have hnd := h.nodup
  rw [← List.take_append_drop K od, List.nodup_append] at hnd
  rw [sum_mul (od.drop K) _ x 1 (fun i hi => by rw [Int.mul_one]; exact if_neg (fun h2 => hnd.2.2 i h2 i hi rfl))]
  unfold T
  omega
theorem lays_up {N : Nat} {x : Nat → Int} {C : List Nat} {M : Int} (hM : 0 ≤ M) (hx : ∀ i, i < N → 1 ≤ x i) : ∀ d i, i + d ≤ N → (lays x C M i).2 ≤ (lays x C M (i + d)).2 := by
  intro d
  induction d with
  | zero => intro i _; exact Int.le_refl _
  | succ d ih =>
    intro i hi
    have h1 := ih i (by omega)
    rw [show i + (d + 1) = (i + d) + 1 by omega]
    by_cases h : i + d ∈ C
    · rw [lays_in h]; exact h1
    · rw [lays_out h]
      have := Int.mul_nonneg (show 0 ≤ x (i + d) by have := hx (i + d) (by omega); omega) hM
      show _ ≤ (lays x C M (i + d)).2 + x (i + d) * M
      omega
/-- once all points are passed, no later unit is drawn -/
theorem sel_end {N : Nat} {x : Nat → Int} {C : List Nat} {M T : Int} {s : Rat} (hT : 1 ≤ T) (hM : 0 ≤ M) (hx : ∀ i, i < N → 1 ≤ x i) (htot : (lays x C M N).2 = T * M) (h0 : 0 ≤ s) (h1 : s < 1) {i j : Nat} (hij : i ≤ j) (hj : j < N) (hc : ¬ j ∈ C) (he : pb T s (lays x C M i).2 = M) (hp : 0 ≤ (lays x C M i).2) : selB x C M T s j = false := by
  unfold selB
  apply decide_eq_false
  have a1 := lays_up (C := C) hM hx (j - i) i (by omega)
  rw [show i + (j - i) = j by omega] at a1
  have a2 := pb_mono (s := s) hT hp a1 h0 h1
  have a3 := lays_up (C := C) hM hx (N - (j + 1)) (j + 1) (by omega)
  rw [show j + 1 + (N - (j + 1)) = N by omega, htot, lays_out hc] at a3
  have a4 := pb_top (s := s) hT hM a3 h0 h1
  simp only at a4
  omega
theorem sorted_unique : ∀ (l m : List Nat), l.Perm m → l.Pairwise (· < ·) → m.Pairwise (· < ·) → l = m
  | [], m, hp, _, _ => (List.Perm.nil_eq hp)
  | a :: l, [], hp, _, _ => by have := hp.length_eq; simp at this
  | a :: l, b :: m, hp, h1, h2 => by
    rw [List.pairwise_cons] at h1 h2
    have e : a = b := by
      have ha : a ∈ b :: m := hp.mem_iff.1 List.mem_cons_self
      have hb : b ∈ a :: l := hp.mem_iff.2 List.mem_cons_self
      rcases List.mem_cons.1 ha with h | h
      · exact h
      · rcases List.mem_cons.1 hb with h' | h'
        · exact h'.symm
        · have := h2.1 a h
          have := h1.1 b h'
          omega
    subst e
    rw [sorted_unique l m (List.Perm.cons_inv hp) h1.2 h2.2]
end Go.Proofs.YtmhjimcdiglpcaaGreatDoor.Dr
/- How many points lie before a place. -/
namespace Go.Proofs.YtmhjimcdiglpcaaGreatDoor.Dr
open Go.RowKit Go.Sort C6

set_option maxHeartbeats 8000000 in
set_option maxRecDepth 100000 in
theorem pointsBefore_v (c p : Value) (M T place : Int) (s : Bool) (ao bo : Option Addr) (n ca m cb k : Nat) (q : Rat) (hk : 2 ≤ k ∧ k + k + 1 ≤ 549755813888) (hT : 1 ≤ T ∧ T ≤ 4611686018427387904) (hp : 0 ≤ place ∧ place ≤ 4611686018427387904) (w : World) (hq : RQ w s ao n ca bo m cb q k) :
    Calls Tryz.prog 52 #[.agg #[c, p, .int .i64 M, .int .i64 T], .int .i64 place, .agg #[.bool s, .slice ao n ca, .slice bo m cb]] w fun e w' => e = .returned (.int .i64 (pb T q place)) ∧ Below w.heap.size w w' := by
  obtain ⟨W1, hW1⟩ : ∃ W, W = w.alloc (.cells #[c, p, .int .i64 M, .int .i64 T] 50) := ⟨_, rfl⟩
  obtain ⟨W2, hW2⟩ : ∃ W, W = W1.alloc (.cells #[.bool s, .slice ao n ca, .slice bo m cb] 32) := ⟨_, rfl⟩
  have b1 : Below w.heap.size w W1 := by rw [hW1]; exact below_new _ _
  have b2 : Below W1.heap.size W1 W2 := by rw [hW2]; exact below_new _ _
  have s1 : W1.heap.size = w.heap.size + 1 := by rw [hW1]; exact World.size_alloc _ _
  have x2 : W2.heap[w.heap.size + 1]? = some (.cells #[.bool s, .slice ao n ca, .slice bo m cb] 32 (0, 0)) := by rw [← s1, hW2]; exact heap_alloc_new _ _
  have d1 : Dc W1 w.heap.size c p M T := by rw [hW1]; exact cells4d _ _ _ _ _
  have d2 : Dc W2 w.heap.size c p M T := (b2.block _ d1.lt).trans d1
  have B2 : Below w.heap.size w W2 := b1.trans (b2.mono b1.size)
  have HB2 := Lib.hid B2
  have K1 : Hid (∀ w', Below W2.heap.size W2 w' → w'.cell? ⟨w.heap.size, 0, none⟩ = some c ∧ w'.cell? ⟨w.heap.size, 1, none⟩ = some p ∧ w'.cell? ⟨w.heap.size, 2, none⟩ = some (.int .i64 M) ∧ w'.cell? ⟨w.heap.size, 3, none⟩ = some (.int .i64 T) ∧ w'.cell? ⟨w.heap.size + 1, 0, none⟩ = some (.bool s) ∧ w'.cell? ⟨w.heap.size + 1, 1, none⟩ = some (.slice ao n ca) ∧ w'.cell? ⟨w.heap.size + 1, 2, none⟩ = some (.slice bo m cb)) := fun w' hb => by
    have dd : Dc w' w.heap.size c p M T := (hb.block _ d2.lt).trans d2
    obtain ⟨q0, q1, q2, q3, _⟩ := dd.cells
    obtain ⟨j0, j1, j2, _⟩ := at_block (carry x2 hb)
    exact ⟨q0, q1, q2, q3, j0, j1, j2⟩
  obtain ⟨r, hr⟩ : ∃ r, r = place % T := ⟨_, rfl⟩
  obtain ⟨a, ha⟩ : ∃ a, a = place / T := ⟨_, rfl⟩
  have hr0 : 0 ≤ r := by rw [hr]; exact Int.emod_nonneg _ (by omega)
  have hr1 : r < T := by rw [hr]; exact Int.emod_lt_of_pos _ (by omega)
  have ha0 : 0 ≤ a := by rw [ha]; exact Int.ediv_nonneg hp.1 (by omega)
  have ha1 : a ≤ place := by rw [ha]; exact Int.ediv_le_self _ hp.1
  have e1 : Int.tdiv place T = a := by rw [Int.tdiv_eq_ediv_of_nonneg hp.1, ha]
  have e2 : Int.tmod place T = r := by rw [Int.tmod_eq_emod_of_nonneg hp.1, hr]
  obtain ⟨C, hC⟩ : ∃ C, C = cq q (fq r T) := ⟨_, rfl⟩
  have PT : Hid (∀ w', Calls Tryz.prog 20 #[.agg #[c, p, .int .i64 M, .int .i64 T], .int .i64 r] w' (MakesQ (fq r T) 2 w')) := fun w' => part_v c p M T r hT (by omega) w'
  have CM : Hid (∀ w', Below W2.heap.size W2 w' → ∀ t po n' ca' qo l cb', RQ w' t po n' ca' qo l cb' (fq r T) 2 → Calls Tryz.prog 25 #[.agg #[.bool s, .slice ao n ca, .slice bo m cb], .agg #[.bool t, .slice po n' ca', .slice qo l cb']] w' fun e w2 => e = .returned (.int .i64 C) ∧ Below w'.heap.size w' w2) := fun w' hb t po n' ca' qo l cb' h1 => by
    rw [hC]; exact Compare_q _ _ _ _ _ _ _ _ _ _ _ _ _ _ k q (fq r T) w' ((hq.below B2).below hb) (h1.up hk.1 (by omega)) hk.2
  have hT0 : ¬ T = 0 := by omega
  have hT0b : (T == 0) = false := by simp; omega
  have i1 : IntKind.i64.wrap place = place := IntWalk.i64_in _ (by omega)
  have i2 : IntKind.i64.wrap T = T := IntWalk.i64_in _ (by omega)
  have i3 : IntKind.i64.wrap a = a := IntWalk.i64_in _ (by omega)
  have i4 : IntKind.i64.wrap r = r := IntWalk.i64_in _ (by omega)
  obtain ⟨a1, ha1'⟩ : ∃ a1, a1 = a + 1 := ⟨_, rfl⟩
  have e3 : a + 1 = a1 := ha1'.symm
  have i5 : IntKind.i64.wrap a1 = a1 := IntWalk.i64_in _ (by omega)
  have hpb : Hid (pb T q place = a + (if C < 0 then 1 else 0)) := by unfold pb Hid; rw [← hr, ← ha, ← hC]
  obtain ⟨P, hP⟩ : ∃ P, P = pb T q place := ⟨_, rfl⟩
  unfold Hid at hpb
  rw [← hP] at hpb ⊢
  obtain ⟨q0, q1, q2, q3, z0, z1, z2, z3⟩ := d2.cells
  by_cases hlt : C < 0
  · rw [if_pos hlt, e3] at hpb
    have hd : decide (C < 0) = true := decide_eq_true hlt
    have HPB := Lib.hid hpb
    clear b1 b2 s1 d1 d2 x2 B2 hC hP ha hr ha0 ha1 hr0 hr1 hp hq ha1' hpb hT hk
    go_enter Tryz.func52, Tryz.ntmps52
    go_wp2_with fail
    rw [← hW1, ← hW2]
    clear hW1 hW2
    go_upto_region 2 with fail
    refine wp_region_held_drew (S := fun w' => Below W2.heap.size W2 w') (by kernel_rfl) ((Below.refl _ _).drew) (fun hH => ?_)
    refine wpAnyH_take (i := 0) (v := (.agg #[.bool s, .slice ao n ca, .slice bo m cb])) rfl (by kernel_rfl) (by kernel_rfl) (by kernel_rfl) (fun _ _ _ h => h) (Or.inl ⟨by kernel_rfl, ?_⟩) hH ?_
    · intro w1 hB
      obtain ⟨k0, k1, k2, k3, j0, j1, j2⟩ := K1.out w1 hB
      go_simp
    change wpAnyH _ _ _ _ _ _ _ (Act.put _ (some 12) _) _
    try simp only [Act.put, List.setIfInBounds_toArray, List.set_cons_zero, List.set_cons_succ]
    refine wpAnyH_take (i := 1) (v := (.agg #[c, p, .int .i64 M, .int .i64 T])) rfl (by kernel_rfl) (by kernel_rfl) (by kernel_rfl) (fun _ _ _ h => h) (Or.inl ⟨by kernel_rfl, ?_⟩) hH ?_
    · intro w1 hB
      obtain ⟨k0, k1, k2, k3, j0, j1, j2⟩ := K1.out w1 hB
      go_simp
    change wpAnyH _ _ _ _ _ _ _ (Act.put _ (some 13) _) _
    try simp only [Act.put, List.setIfInBounds_toArray, List.set_cons_zero, List.set_cons_succ]
    refine wpAnyH_take (i := 2) (v := (.int .i64 place)) rfl (by kernel_rfl) (by kernel_rfl) (by kernel_rfl) (fun _ _ _ h => h) (Or.inl ⟨by kernel_rfl, ?_⟩) hH ?_
    · intro w1 hB
      go_simp
    change wpAnyH _ _ _ _ _ _ _ (Act.put _ (some 14) _) _
    try simp only [Act.put, List.setIfInBounds_toArray, List.set_cons_zero, List.set_cons_succ]
    refine wpAnyH_take (i := 3) (v := (.pointer (some ⟨w.heap.size, 3, none⟩))) rfl (by kernel_rfl) (by kernel_rfl) (by kernel_rfl) (fun _ _ _ h => h) (Or.inl ⟨by kernel_rfl, ?_⟩) hH ?_
    · intro w1 hB
      go_simp
    change wpAnyH _ _ _ _ _ _ _ (Act.put _ (some 15) _) _
    try simp only [Act.put, List.setIfInBounds_toArray, List.set_cons_zero, List.set_cons_succ]
    refine wpAnyH_take (i := 4) (v := (.int .i64 T)) rfl (by kernel_rfl) (by kernel_rfl) (by kernel_rfl) (fun _ _ _ h => h) (Or.inl ⟨by kernel_rfl, ?_⟩) hH ?_
    · intro w1 hB
      obtain ⟨k0, k1, k2, k3, j0, j1, j2⟩ := K1.out w1 hB
      go_simp
    change wpAnyH _ _ _ _ _ _ _ (Act.put _ (some 16) _) _
    try simp only [Act.put, List.setIfInBounds_toArray, List.set_cons_zero, List.set_cons_succ]
    refine wpAnyH_take (i := 5) (v := (.int .i64 r)) rfl (by kernel_rfl) (by kernel_rfl) (by kernel_rfl) (fun _ _ _ h => h) (Or.inl ⟨by kernel_rfl, ?_⟩) hH ?_
    · intro w1 hB
      go_simp
    change wpAnyH _ _ _ _ _ _ _ (Act.put _ (some 17) _) _
    try simp only [Act.put, List.setIfInBounds_toArray, List.set_cons_zero, List.set_cons_succ]
    refine wpAnyH_ready (rs := [6]) (by kernel_rfl) (by simp) ?_
    refine AllReadyH.cons rfl (fun K hK => ?_) AllReadyH.nil
    go_simp
    refine (PT.out _).mono ?_
    rintro e V6 ⟨s6, a6, n6, c6, o6, m6, d6, rfl, cq6, v6⟩
    try go_simp
    refine hK.out _ _ (keepB v6 hH (Nat.le_refl _)) (fun hH6 => ?_)
    clear hK K
    try simp only [Act.put, List.setIfInBounds_toArray, List.set_cons_zero, List.set_cons_succ]
    refine wpAnyH_ready (rs := [7]) (by kernel_rfl) (by simp) ?_
    refine AllReadyH.cons rfl (fun K hK => ?_) AllReadyH.nil
    go_simp
    refine (CM.out _ hH6 s6 a6 n6 c6 o6 m6 d6 cq6.rq).mono ?_
    rintro e V7 ⟨rfl, v7⟩
    try go_simp
    refine hK.out _ _ (keepB v7 hH6 (Nat.le_refl _)) (fun hH7 => ?_)
    clear hK K
    try simp only [Act.put, List.setIfInBounds_toArray, List.set_cons_zero, List.set_cons_succ]
    refine wpAnyH_take (i := 8) (v := (.bool true)) rfl (by kernel_rfl) (by kernel_rfl) (by kernel_rfl) (fun _ _ _ h => h) (Or.inl ⟨by kernel_rfl, ?_⟩) hH7 ?_
    · intro w1 hB
      go_simp
    change wpAnyH _ _ _ _ _ _ _ (Act.put _ (some 20) _) _
    try simp only [Act.put, List.setIfInBounds_toArray, List.set_cons_zero, List.set_cons_succ]
    refine wpAnyH_done (by kernel_rfl) ?_ _
    have BV : Below W2.heap.size W2 _ := hH7
    have HV := Lib.hid (HB2.out.trans (BV.mono HB2.out.size))
    clear BV K1 PT CM
    go_wp2_with fail
    go_ret
    exact ⟨by rw [HPB.out] <;> rfl, HV.out⟩
  · rw [if_neg hlt, Int.add_zero] at hpb
    have hd : decide (C < 0) = false := decide_eq_false hlt
    have HPB := Lib.hid hpb
    clear b1 b2 s1 d1 d2 x2 B2 hC hP ha hr ha0 ha1 hr0 hr1 hp hq ha1' hpb hT hk
    go_enter Tryz.func52, Tryz.ntmps52
    go_wp2_with fail
    rw [← hW1, ← hW2]
    clear hW1 hW2
    go_upto_region 2 with fail
    refine wp_region_held_drew (S := fun w' => Below W2.heap.size W2 w') (by kernel_rfl) ((Below.refl _ _).drew) (fun hH => ?_)
    refine wpAnyH_take (i := 0) (v := (.agg #[.bool s, .slice ao n ca, .slice bo m cb])) rfl (by kernel_rfl) (by kernel_rfl) (by kernel_rfl) (fun _ _ _ h => h) (Or.inl ⟨by kernel_rfl, ?_⟩) hH ?_
    · intro w1 hB
      obtain ⟨k0, k1, k2, k3, j0, j1, j2⟩ := K1.out w1 hB
      go_simp
    change wpAnyH _ _ _ _ _ _ _ (Act.put _ (some 12) _) _
    try simp only [Act.put, List.setIfInBounds_toArray, List.set_cons_zero, List.set_cons_succ]
    refine wpAnyH_take (i := 1) (v := (.agg #[c, p, .int .i64 M, .int .i64 T])) rfl (by kernel_rfl) (by kernel_rfl) (by kernel_rfl) (fun _ _ _ h => h) (Or.inl ⟨by kernel_rfl, ?_⟩) hH ?_
    · intro w1 hB
      obtain ⟨k0, k1, k2, k3, j0, j1, j2⟩ := K1.out w1 hB
      go_simp
    change wpAnyH _ _ _ _ _ _ _ (Act.put _ (some 13) _) _
    try simp only [Act.put, List.setIfInBounds_toArray, List.set_cons_zero, List.set_cons_succ]
    refine wpAnyH_take (i := 2) (v := (.int .i64 place)) rfl (by kernel_rfl) (by kernel_rfl) (by kernel_rfl) (fun _ _ _ h => h) (Or.inl ⟨by kernel_rfl, ?_⟩) hH ?_
    · intro w1 hB
      go_simp
    change wpAnyH _ _ _ _ _ _ _ (Act.put _ (some 14) _) _
    try simp only [Act.put, List.setIfInBounds_toArray, List.set_cons_zero, List.set_cons_succ]
    refine wpAnyH_take (i := 3) (v := (.pointer (some ⟨w.heap.size, 3, none⟩))) rfl (by kernel_rfl) (by kernel_rfl) (by kernel_rfl) (fun _ _ _ h => h) (Or.inl ⟨by kernel_rfl, ?_⟩) hH ?_
    · intro w1 hB
      go_simp
    change wpAnyH _ _ _ _ _ _ _ (Act.put _ (some 15) _) _
    try simp only [Act.put, List.setIfInBounds_toArray, List.set_cons_zero, List.set_cons_succ]
    refine wpAnyH_take (i := 4) (v := (.int .i64 T)) rfl (by kernel_rfl) (by kernel_rfl) (by kernel_rfl) (fun _ _ _ h => h) (Or.inl ⟨by kernel_rfl, ?_⟩) hH ?_
    · intro w1 hB
      obtain ⟨k0, k1, k2, k3, j0, j1, j2⟩ := K1.out w1 hB
      go_simp
    change wpAnyH _ _ _ _ _ _ _ (Act.put _ (some 16) _) _
    try simp only [Act.put, List.setIfInBounds_toArray, List.set_cons_zero, List.set_cons_succ]
    refine wpAnyH_take (i := 5) (v := (.int .i64 r)) rfl (by kernel_rfl) (by kernel_rfl) (by kernel_rfl) (fun _ _ _ h => h) (Or.inl ⟨by kernel_rfl, ?_⟩) hH ?_
    · intro w1 hB
      go_simp
    change wpAnyH _ _ _ _ _ _ _ (Act.put _ (some 17) _) _
    try simp only [Act.put, List.setIfInBounds_toArray, List.set_cons_zero, List.set_cons_succ]
    refine wpAnyH_ready (rs := [6]) (by kernel_rfl) (by simp) ?_
    refine AllReadyH.cons rfl (fun K hK => ?_) AllReadyH.nil
    go_simp
    refine (PT.out _).mono ?_
    rintro e V6 ⟨s6, a6, n6, c6, o6, m6, d6, rfl, cq6, v6⟩
    try go_simp
    refine hK.out _ _ (keepB v6 hH (Nat.le_refl _)) (fun hH6 => ?_)
    clear hK K
    try simp only [Act.put, List.setIfInBounds_toArray, List.set_cons_zero, List.set_cons_succ]
    refine wpAnyH_ready (rs := [7]) (by kernel_rfl) (by simp) ?_
    refine AllReadyH.cons rfl (fun K hK => ?_) AllReadyH.nil
    go_simp
    refine (CM.out _ hH6 s6 a6 n6 c6 o6 m6 d6 cq6.rq).mono ?_
    rintro e V7 ⟨rfl, v7⟩
    try go_simp
    refine hK.out _ _ (keepB v7 hH6 (Nat.le_refl _)) (fun hH7 => ?_)
    clear hK K
    try simp only [Act.put, List.setIfInBounds_toArray, List.set_cons_zero, List.set_cons_succ]
    refine wpAnyH_take (i := 8) (v := (.bool false)) rfl (by kernel_rfl) (by kernel_rfl) (by kernel_rfl) (fun _ _ _ h => h) (Or.inl ⟨by kernel_rfl, ?_⟩) hH7 ?_
    · intro w1 hB
      go_simp
    change wpAnyH _ _ _ _ _ _ _ (Act.put _ (some 20) _) _
    try simp only [Act.put, List.setIfInBounds_toArray, List.set_cons_zero, List.set_cons_succ]
    refine wpAnyH_done (by kernel_rfl) ?_ _
    have BV : Below W2.heap.size W2 _ := hH7
    have HV := Lib.hid (HB2.out.trans (BV.mono HB2.out.size))
    clear BV K1 PT CM
    go_wp2_with fail
    go_ret
    exact ⟨by rw [HPB.out] <;> rfl, HV.out⟩
end Go.Proofs.YtmhjimcdiglpcaaGreatDoor.Dr
/- The units whose pieces hold a point. -/
namespace Go.Proofs.YtmhjimcdiglpcaaGreatDoor.Dr
open Go.RowKit Go.Sort C6

/-- the units whose pieces hold a point -/
def selP (T : Int) (q : Rat) (l : List Pc) : List Nat := (l.filter (fun p => decide (pb T q p.2.1 < pb T q p.2.2))).map (fun p => p.1)
theorem selP_take {T : Int} {q : Rat} {l : List Pc} {i : Nat} (h : i < l.length) : selP T q (l.take (i + 1)) = selP T q (l.take i) ++ (if pb T q (l[i]).2.1 < pb T q (l[i]).2.2 then [(l[i]).1] else []) := by
  unfold selP
  rw [List.take_succ_eq_append_getElem h, List.filter_append, List.map_append]
  congr 1
  by_cases e : pb T q (l[i]).2.1 < pb T q (l[i]).2.2
  · simp [e]
  · simp [e]
theorem selP_len (T : Int) (q : Rat) (l : List Pc) : (selP T q l).length ≤ l.length := by
  unfold selP
  rw [List.length_map]
  exact List.length_filter_le _ _
theorem selP_end {T : Int} {q : Rat} {l : List Pc} {i : Nat} (h : ∀ j (hj : j < l.length), i ≤ j → ¬ pb T q (l[j]).2.1 < pb T q (l[j]).2.2) : selP T q (l.take i) = selP T q l := by
  have e : (l.drop i).filter (fun p => decide (pb T q p.2.1 < pb T q p.2.2)) = [] := List.filter_eq_nil_iff.2 (fun p hp => by
    obtain ⟨j, hj, rfl⟩ := List.mem_iff_getElem.1 hp
    rw [List.getElem_drop]
    have := h (i + j) (by rw [List.length_drop] at hj; omega) (by omega)
    simpa using this)
  unfold selP
  conv => rhs; rw [← List.take_append_drop i l]
  rw [List.filter_append, List.map_append, e]
  simp
def SelPost (L : List Nat) (w : World) (e : Ending) (w' : World) : Prop := ∃ (a : Option Addr) (n c : Nat), e = .returned (.slice a n c) ∧ n = L.length ∧ w'.ownsRow w.heap.size 3 1 (.slice a n c) n (intz (iz L)) ∧ Below w.heap.size w w'

set_option maxHeartbeats 16000000 in
set_option maxRecDepth 100000 in
theorem selected_v (c : Value) (po : Option Addr) (pc : Nat) (l : List Pc) (M T : Int) (s : Bool) (ao bo : Option Addr) (n ca m cb k : Nat) (q : Rat) (hk : 2 ≤ k ∧ k + k + 1 ≤ 549755813888) (hT : 0 < l.length → 1 ≤ T ∧ T ≤ 4611686018427387904) (h19 : l.length ≤ 19)
    (hbd : ∀ p ∈ l, (0 ≤ p.2.1 ∧ p.2.1 ≤ 4611686018427387904) ∧ (0 ≤ p.2.2 ∧ p.2.2 ≤ 4611686018427387904)) (hend : ∀ i (hi : i < l.length), pb T q (l[i]).2.1 = M → ∀ j (hj : j < l.length), i ≤ j → ¬ pb T q (l[j]).2.1 < pb T q (l[j]).2.2) (w : World) (hp : RdP w po pc l) (hq : RQ w s ao n ca bo m cb q k) :
    Calls Tryz.prog 26 #[.agg #[c, .slice po l.length pc, .int .i64 M, .int .i64 T], .agg #[.bool s, .slice ao n ca, .slice bo m cb]] w (SelPost (selP T q l) w) := by
  obtain ⟨i0, hi, hz0, hz1, hz2⟩ := info_partsr infoInt10
  obtain ⟨ln, hln⟩ : ∃ ln, ln = l.length := ⟨_, rfl⟩
  have HLN := Lib.hid hln
  have HEND := Lib.hid hend
  have HBD := Lib.hid hbd
  have hln19 : ln ≤ 19 := by omega
  rw [← hln] at hT ⊢
  obtain ⟨W1, hW1⟩ : ∃ W, W = w.alloc (.cells #[c, .slice po ln pc, .int .i64 M, .int .i64 T] 50) := ⟨_, rfl⟩
  obtain ⟨W2, hW2⟩ : ∃ W, W = W1.alloc (.cells #[.bool s, .slice ao n ca, .slice bo m cb] 32) := ⟨_, rfl⟩
  have b1 : Below w.heap.size w W1 := by rw [hW1]; exact below_new _ _
  have b2 : Below W1.heap.size W1 W2 := by rw [hW2]; exact below_new _ _
  have s1 : W1.heap.size = w.heap.size + 1 := by rw [hW1]; exact World.size_alloc _ _
  have x2 : W2.heap[w.heap.size + 1]? = some (.cells #[.bool s, .slice ao n ca, .slice bo m cb] 32 (0, 0)) := by rw [← s1, hW2]; exact heap_alloc_new _ _
  have d1 : Dc W1 w.heap.size c (.slice po ln pc) M T := by rw [hW1]; exact cells4d _ _ _ _ _
  have d2 : Dc W2 w.heap.size c (.slice po ln pc) M T := (b2.block _ d1.lt).trans d1
  have B2 : Below w.heap.size w W2 := b1.trans (b2.mono b1.size)
  have HB2 := Lib.hid B2
  obtain ⟨g2, hg2⟩ : ∃ g, g = W2.heap.size := ⟨_, rfl⟩
  have HG2 := Lib.hid hg2
  have HGW : Hid (w.heap.size ≤ g2) := by unfold Hid; rw [hg2]; exact B2.size
  have K1 : Hid (∀ w', Below g2 W2 w' → w'.cell? ⟨w.heap.size, 0, none⟩ = some c ∧ w'.cell? ⟨w.heap.size, 1, none⟩ = some (.slice po ln pc) ∧ w'.cell? ⟨w.heap.size, 2, none⟩ = some (.int .i64 M) ∧ w'.cell? ⟨w.heap.size, 3, none⟩ = some (.int .i64 T) ∧ w'.cell? ⟨w.heap.size + 1, 0, none⟩ = some (.bool s) ∧ w'.cell? ⟨w.heap.size + 1, 1, none⟩ = some (.slice ao n ca) ∧ w'.cell? ⟨w.heap.size + 1, 2, none⟩ = some (.slice bo m cb)) := fun w' hb => by
    rw [hg2] at hb
    have dd : Dc w' w.heap.size c (.slice po ln pc) M T := (hb.block _ d2.lt).trans d2
    obtain ⟨q0, q1, q2, q3, _⟩ := dd.cells
    obtain ⟨j0, j1, j2, _⟩ := at_block (carry x2 hb)
    exact ⟨q0, q1, q2, q3, j0, j1, j2⟩
  have RP2 : Hid (RdP W2 po pc l) := (hp.below b1).below b2
  have hpc : ln ≤ pc := by have := hp.1; omega
  have hpc2 := hp.2.1
  have PB : Hid (∀ w', Below g2 W2 w' → ∀ pl, 0 ≤ pl ∧ pl ≤ 4611686018427387904 → 0 < ln → Calls Tryz.prog 52 #[.agg #[c, .slice po ln pc, .int .i64 M, .int .i64 T], .int .i64 pl, .agg #[.bool s, .slice ao n ca, .slice bo m cb]] w' fun e w'' => e = .returned (.int .i64 (pb T q pl)) ∧ Below w'.heap.size w' w'') := fun w' hb pl hpl h0 => by
    rw [hg2] at hb
    exact pointsBefore_v _ _ M T pl _ _ _ _ _ _ _ k q hk (hT h0) hpl w' ((hq.below B2).below hb)
  obtain ⟨q0, q1, q2, q3, j0, j1, j2⟩ := K1.out W2 (Below.refl _ _)
  clear b1 b2 s1 x2 d1 d2 B2 hln hend hbd hT hk hp hq h19
  go_enter Tryz.func26, Tryz.ntmps26
  go_wp2_with fail
  rw [← hW1, ← hW2]
  clear hW1 hW2
  go_step3
  go_wp2_with fail
  go_step3
  go_wp2_with fail
  clear q0 q1 q2 q3 j0 j1 j2
  go_loopw [5, 12] (fun s5 s12 wr => ∃ (i n' : Nat) (v : Value), i ≤ ln ∧ s12 = .int .i64 (i : Int) ∧ v = s5 ∧ Hid (n' = (selP T q (l.take i)).length) ∧ Hid (wr.ownsRow g2 3 1 v n' (intz (iz (selP T q (l.take i))))) ∧ Hid (Below g2 W2 wr)) (fun _ s12 _ => ln - (intOf s12).toNat)
  case atStart => exact ⟨0, 0, _, by omega, rfl, rfl, rfl, World.ownsRow_nil _ _ _ _, Below.refl _ _⟩
  case round =>
    obtain ⟨i, n', v, hil, rfl, rfl, hn, hown, hbl⟩ := hrel
    by_cases hlt : i < ln
    · have hlt2 : (i : Int) < (ln : Int) := by omega
      have hiL : i < l.length := by rw [← HLN.out]; exact hlt
      have HPw : RdP wr po pc l := RP2.out.below (by rw [← HG2.out]; exact hbl.out)
      obtain ⟨b, o, rfl, c0, c1, c2⟩ := HPw.at hiL
      obtain ⟨hb1, hb2⟩ := HBD.out _ (List.getElem_mem hiL)
      obtain ⟨u, hu⟩ : ∃ u, u = (l[i]).1 := ⟨_, rfl⟩
      obtain ⟨lo, hlo⟩ : ∃ u, u = (l[i]).2.1 := ⟨_, rfl⟩
      obtain ⟨hi', hhi⟩ : ∃ u, u = (l[i]).2.2 := ⟨_, rfl⟩
      have ST := Lib.hid (selP_take (T := T) (q := q) hiL)
      have EN := Lib.hid (HEND.out i hiL)
      unfold Hid at ST EN
      rw [← hu] at c0
      rw [← hlo] at c1 hb1
      rw [← hhi] at c2 hb2
      rw [← hu, ← hlo, ← hhi] at ST
      rw [← hlo] at EN
      obtain ⟨W6, hW6⟩ : ∃ W, W = wr.alloc (.cells #[.int .i64 (u : Int), .int .i64 lo, .int .i64 hi'] 55) := ⟨_, rfl⟩
      obtain ⟨g6, hg6⟩ : ∃ g, g = wr.heap.size := ⟨_, rfl⟩
      have b6 : Below wr.heap.size wr W6 := by rw [hW6]; exact below_new _ _
      have x6 : Hid (W6.heap[g6]? = some (.cells #[.int .i64 (u : Int), .int .i64 lo, .int .i64 hi'] 55 (0, 0))) := by rw [hW6, hg6]; exact heap_alloc_new _ _
      have BL6 : Hid (Below g2 W2 W6) := hbl.out.trans (b6.mono (Nat.le_trans (Nat.le_of_eq HG2.out) hbl.out.size))
      have hown6 := Lib.hid (row_below hown.out b6)
      obtain ⟨P1, hP1⟩ : ∃ P, P = pb T q lo := ⟨_, rfl⟩
      obtain ⟨P2, hP2⟩ : ∃ P, P = pb T q hi' := ⟨_, rfl⟩
      have CA := Lib.hid (PB.out W6 BL6.out lo hb1 (by omega))
      have CB : Hid (∀ w', Below g2 W2 w' → Calls Tryz.prog 52 #[.agg #[c, .slice (some ⟨b, o, none⟩) ln pc, .int .i64 M, .int .i64 T], .int .i64 hi', .agg #[.bool s, .slice ao n ca, .slice bo m cb]] w' fun e w'' => e = .returned (.int .i64 (pb T q hi')) ∧ Below w'.heap.size w' w'') := fun w' hb => PB.out w' hb hi' hb2 (by omega)
      unfold Hid at CA CB
      rw [← hP1] at CA EN
      rw [← hP2] at CB
      rw [← hP1, ← hP2] at ST
      have CA := Lib.hid CA
      have CB := Lib.hid CB
      have EN := Lib.hid EN
      have ST := Lib.hid ST
      obtain ⟨q0, q1, q2, q3, j0, j1, j2⟩ := K1.out W6 BL6.out
      obtain ⟨t0, t1, t2, _⟩ := at_block x6.out
      clear hown b6 HPw hu hlo hhi hP1 hP2 hb1 hb2 hbl
      go_upto_region 5 with fail
      rw [← hW6]
      try rw [← hg6]
      clear hW6 hg6 c0 c1 c2
      go_wp2_with fail
      refine CA.out.mono ?_; rintro e W7 ⟨rfl, b7⟩
      have BL7 : Hid (Below g2 W2 W7) := BL6.out.trans (b7.mono (Nat.le_trans (Nat.le_of_eq HG2.out) BL6.out.size))
      have x7 := Lib.hid (carry x6.out b7)
      have hown7 := Lib.hid (row_below hown6.out b7)
      clear q0 q1 q2 q3 j0 j1 j2 t0 t1 t2 b7 hown6 x6 BL6 CA
      obtain ⟨q0, q1, q2, q3, j0, j1, j2⟩ := K1.out W7 BL7.out
      obtain ⟨t0, t1, t2, _⟩ := at_block x7.out
      by_cases hM : P1 = M
      · have hMb : (P1 == M) = true := by simp [hM]
        have ES : Hid (selP T q (l.take i) = selP T q l) := selP_end (fun j hj h => by have := EN.out hM j hj h; omega)
        clear EN ST CB
        have hrow := hown7.out
        obtain ⟨a9, c9, rfl⟩ := row_n hrow
        have HR9 : Hid (W7.ownsRow g2 3 1 (.slice a9 n' c9) n' (intz (iz (selP T q l)))) := by unfold Hid; rw [← ES.out]; exact hrow
        have HN9 : Hid (n' = (selP T q l).length) := by unfold Hid; rw [← ES.out]; exact hn.out
        clear hrow hown7
        go_wp2_with fail
        go_ret
        refine ⟨a9, n', c9, rfl, HN9.out, ?_, HB2.out.trans (BL7.out.mono HGW.out)⟩
        exact ⟨HR9.out.1, HR9.out.2.imp id fun ⟨g', cap, cur, hv, h1, h2⟩ => ⟨g', cap, cur, hv, Nat.le_trans HGW.out h1, h2⟩⟩
      · have hMb : (P1 == M) = false := by simp [hM]
        have CB7 := Lib.hid (CB.out W7 BL7.out)
        clear EN CB
        go_wp2_with fail
        refine CB7.out.mono ?_; rintro e W8 ⟨rfl, b8⟩
        have BL8 : Hid (Below g2 W2 W8) := BL7.out.trans (b8.mono (Nat.le_trans (Nat.le_of_eq HG2.out) BL7.out.size))
        have x8 := Lib.hid (carry x7.out b8)
        have hown8 := Lib.hid (row_below hown7.out b8)
        have hs8 : g2 ≤ W8.heap.size := Nat.le_trans (by rw [HG2.out]; exact Nat.le_refl _) BL8.out.size
        clear q0 q1 q2 q3 j0 j1 j2 t0 t1 t2 b8 hown7 x7 BL7 CB7
        obtain ⟨t0, t1, t2, _⟩ := at_block x8.out
        have HN3 : Hid (n' ≤ 19) := by
          unfold Hid
          rw [hn.out]
          exact Nat.le_trans (selP_len _ _ _) (by rw [List.length_take]; have := HLN.out; omega)
        by_cases hP : P1 < P2
        · have hd : decide (P1 < P2) = true := decide_eq_true hP
          have ST2 : Hid (selP T q (l.take (i + 1)) = selP T q (l.take i) ++ [u]) := by have := ST.out; rw [if_pos hP] at this; exact this
          have HN4 : Hid (n' + 1 = (selP T q (l.take (i + 1))).length) := by unfold Hid; rw [ST2.out, List.length_append, ← hn.out]; rfl
          have h19n := HN3.out
          clear ST hn HN3
          go_wp2_with (at_builtin; refine wpList_append_own _ rfl _ _ 22 rfl g2 3 i0 (.int .i64 0) 1 8 Tryz.underlying22 hi hz0 hz1 hz2 rfl (by omega) _ _ _ rfl (hown8.out.alloc _) ⟨W8.heap.size, 0, none⟩ 1 1 [.int .i64 (u : Int)] rfl rfl (cell_one _ _ _) (by intro u hu; simp at hu; rcases hu with rfl; rfl) (by unfold maxLen; omega) (by omega) (by simp; omega) ?_; intro v9 w9 hown9 hgr9 _; obtain ⟨a9, c9, rfl⟩ := row_n hown9; have HO9 := Lib.hid hown9; have HG9 := Lib.hid hgr9; clear hown9 hgr9)
          all_goals
            have HO4 : Hid (w9.ownsRow g2 3 1 (.slice a9 (n' + 1) c9) (n' + 1) (intz (iz (selP T q (l.take (i + 1)))))) := by unfold Hid; rw [ST2.out, iz_snoc, intz_snoc']; exact HO9.out
            have HB4 : Hid (Below g2 W2 w9) := (BL8.out.trans ((below_new W8 _).mono hs8)).grown HG9.out (by rw [World.size_alloc]; omega) (fun k e => (hown8.out.lt k e).1)
            clear ST2 HO9 HG9
            go_wp2_with fail
            go_roundw
            case rel => exact ⟨i + 1, n' + 1, .slice a9 (n' + 1) c9, by omega, by go_num, rfl, HN4, HO4, HB4⟩
            case measure => simp [intOf]; omega
        · have hd : decide (P1 < P2) = false := decide_eq_false hP
          have ST2 : Hid (selP T q (l.take (i + 1)) = selP T q (l.take i)) := by have := ST.out; rw [if_neg hP, List.append_nil] at this; exact this
          clear ST
          go_wp2_with fail
          go_roundw
          case rel => exact ⟨i + 1, n', v, by omega, by go_num, rfl, by rw [ST2.out]; exact hn, by rw [ST2.out]; exact hown8, BL8⟩
          case measure => simp [intOf]; omega
    · obtain rfl : i = ln := by omega
      have hlt2 : ¬ (i : Int) < (i : Int) := by omega
      have hrow := hown.out
      have hnn := hn.out
      rw [HLN.out, List.take_length] at hrow hnn
      obtain ⟨a9, c9, rfl⟩ := row_n hrow
      have HR9 := Lib.hid hrow
      have HN9 := Lib.hid hnn
      clear hrow hnn hown hn
      go_wp2_with fail
      go_ret
      refine ⟨a9, n', c9, rfl, HN9.out, ?_, HB2.out.trans (hbl.out.mono HGW.out)⟩
      exact ⟨HR9.out.1, HR9.out.2.imp id fun ⟨g', cap, cur, hv, h1, h2⟩ => ⟨g', cap, cur, hv, Nat.le_trans HGW.out h1, h2⟩⟩
end Go.Proofs.YtmhjimcdiglpcaaGreatDoor.Dr
/- The sample as the code builds it: pieces that hold a point, the certain ones behind them, sorted. -/
namespace Go.Proofs.YtmhjimcdiglpcaaGreatDoor.Dr
open Go.RowKit Go.Sort C6

/-- the units that are not certain -/
def outs (C : List Nat) (N : Nat) : List Nat := (List.range N).filter (fun u => !decide (u ∈ C))
theorem outs_up (C : List Nat) (N : Nat) : (outs C N).Pairwise (· < ·) := List.Pairwise.filter _ List.pairwise_lt_range
theorem outs_mem {C : List Nat} {N u : Nat} : u ∈ outs C N ↔ u < N ∧ ¬ u ∈ C := by simp [outs]
theorem lays_outs (x : Nat → Int) (C : List Nat) (M : Int) (N : Nat) : (lays x C M N).1 = (outs C N).map (fun u => (u, (lays x C M u).2, (lays x C M u).2 + x u * M)) := lays_form x C M N
theorem selP_lays (x : Nat → Int) (C : List Nat) (M T : Int) (q : Rat) (N : Nat) : selP T q (lays x C M N).1 = (outs C N).filter (selB x C M T q) := by
  unfold selP
  rw [lays_outs, List.filter_map, List.map_map]
  exact List.map_id _
theorem draw_perm {N : Nat} {x : Nat → Int} {od : List Nat} (h : Ord N x od) {K : Nat} (M T : Int) (q : Rat) : (selP T q (lays x (od.take K) M N).1 ++ od.take K).Perm (drawL x (od.take K) M T q N) := by
  have hn : (od.take K).Nodup := (List.take_sublist K od).nodup h.nodup
  have hp : ((outs (od.take K) N).filter (selB x (od.take K) M T q)).Nodup := ((outs_up _ _).filter _).imp (fun h => Nat.ne_of_lt h)
  rw [selP_lays]
  refine (List.perm_ext_iff_of_nodup ?_ ?_).2 ?_
  · rw [List.nodup_append]
    refine ⟨hp, hn, fun a ha b hb e => ?_⟩
    subst e
    exact (outs_mem.1 (List.mem_filter.1 ha).1).2 hb
  · exact (List.pairwise_lt_range.filter _).imp (fun h => Nat.ne_of_lt h)
  · intro u
    unfold drawL hitB
    rw [List.mem_append, List.mem_filter, List.mem_filter, outs_mem, List.mem_range]
    constructor
    · rintro (⟨⟨h1, h2⟩, h3⟩ | h1)
      · exact ⟨h1, by simp [h3]⟩
      · exact ⟨h.lt (List.mem_of_mem_take h1), by simp [h1]⟩
    · rintro ⟨h1, h2⟩
      by_cases e : u ∈ od.take K
      · exact .inr e
      · exact .inl ⟨⟨h1, e⟩, by simpa [e] using h2⟩
theorem drawL_up (x : Nat → Int) (C : List Nat) (M T : Int) (q : Rat) (N : Nat) : (drawL x C M T q N).Pairwise (· < ·) := List.pairwise_lt_range.filter _
theorem sort_draw {l m : List Nat} (hp : l.Perm m) (hm : m.Pairwise (· < ·)) : (iz l).mergeSort (fun x y => decide (x ≤ y)) = iz m := by
  refine List.Perm.eq_of_pairwise (le := fun (a b : Int) => a ≤ b) (fun a b _ _ h1 h2 => by omega) ?_ ?_ ((List.mergeSort_perm _ _).trans (hp.map _))
  · have := List.pairwise_mergeSort (le := fun (a b : Int) => decide (a ≤ b)) (fun a b c h1 h2 => by simp at *; omega) (fun a b => by simp; omega) (iz l)
    exact this.imp (fun h => by simpa using h)
  · unfold iz
    rw [List.pairwise_map]
    exact hm.imp (fun h => by omega)
/-- what selected_v asks of the pieces -/
theorem lays_end {N : Nat} {x : Nat → Int} {od : List Nat} (h : Ord N x od) {K : Nat} (hK : K < N) {M : Int} (hM : 0 ≤ M ∧ M ≤ 19) (hx : ∀ i, i < N → 1 ≤ x i ∧ x i ≤ 1099511627776) {q : Rat} (h0 : 0 ≤ q) (h1 : q < 1) :
    ∀ i (hi : i < (lays x (od.take K) M N).1.length), pb (T x od K) q ((lays x (od.take K) M N).1[i]).2.1 = M → ∀ j (hj : j < (lays x (od.take K) M N).1.length), i ≤ j → ¬ pb (T x od K) q ((lays x (od.take K) M N).1[j]).2.1 < pb (T x od K) q ((lays x (od.take K) M N).1[j]).2.2 := by
  have hT : 1 ≤ T x od K := by have := (T_bd h hx (N - K) K (by omega)).1; omega
  intro i hi he j hj hij
  have key : ∀ k (hk : k < (lays x (od.take K) M N).1.length), ∃ (hk2 : k < (outs (od.take K) N).length), (lays x (od.take K) M N).1[k] = ((outs (od.take K) N)[k], (lays x (od.take K) M (outs (od.take K) N)[k]).2, (lays x (od.take K) M (outs (od.take K) N)[k]).2 + x (outs (od.take K) N)[k] * M) := by
    intro k hk
    have e := lays_outs x (od.take K) M N
    have hk2 : k < (outs (od.take K) N).length := by rw [e, List.length_map] at hk; exact hk
    refine ⟨hk2, ?_⟩
    simp [e]
  obtain ⟨i2, ei⟩ := key i hi
  obtain ⟨j2, ej⟩ := key j hj
  rw [ei] at he
  rw [ej]
  have hu := outs_mem.1 (List.getElem_mem i2)
  have hv := outs_mem.1 (List.getElem_mem j2)
  have huv : (outs (od.take K) N)[i] ≤ (outs (od.take K) N)[j] := by
    by_cases e : i = j
    · subst e; exact Nat.le_refl _
    · exact Nat.le_of_lt (List.pairwise_iff_getElem.1 (outs_up (od.take K) N) i j i2 j2 (by omega))
  have := sel_end hT hM.1 (fun i hi => (hx i hi).1) (lays_total h M) h0 h1 huv hv.1 hv.2 he (lays_bd hM hx _ (Nat.le_of_lt hu.1)).1
  unfold selB at this
  exact of_decide_eq_false this

/-- a row of integers sorted -/
theorem sortI_v {base n c : Nat} {a : Option Addr} {ss : List Int} (w : World) (h : w.ownsRow base 3 1 (.slice a n c) n (intz ss)) (hn : n ≤ 100000) :
    Calls Tryz.prog 27 #[.slice a n c] w fun e w' => e = .returned (.tuple #[]) ∧ w'.ownsRow base 3 1 (.slice a n c) n (intz (ss.mergeSort fun x y => decide (x ≤ y))) ∧ w.grownBy w' (Value.ownBlock (.slice a n c)) := by
  have hlen : ss.length = n := by have := h.1; rw [intz_length] at this; omega
  rcases h.2 with ⟨e, h0⟩ | ⟨g, cap, cur, e, hb, hg, hnc, hc, hs, ht⟩
  · cases e
    refine (Tryz.slices_Sort_int_none none 0 w).mono ?_
    rintro e w' ⟨rfl, rfl⟩
    obtain rfl : ss = [] := List.eq_nil_of_length_eq_zero hlen
    exact ⟨rfl, by simpa using h, ⟨rfl, rfl, rfl, Nat.le_refl _, fun _ _ _ => rfl⟩⟩
  · cases e
    have hH : Sort.Holds (Value.int .i64) w g 0 ss.toArray := holds_of_blockI hg (by rw [hlen]; simpa [intz] using ht)
    have hc1 := Tryz.slices_Sort_int g 0 c ss w hH (Array.getElem?_eq_some_iff.1 hg).1 (by omega)
    rw [hlen] at hc1
    refine hc1.mono ?_
    rintro e w' ⟨rfl, q, os, rfl⟩
    have r := ownsRow_sortedI (n := q) (os := os) (ss := ss) (ts := ss.mergeSort fun x y => decide (x ≤ y)) (by simp) hb hg (by omega) hc (by omega)
    rw [hlen] at r
    exact ⟨rfl, r, grownBy_sortedI _⟩
theorem wp_append_nil {P : Program} {o : Oper} {a : Act} {w : World} {K : Act → World → Prop} {Q : Exit → Act → World → Prop} (s x : Operand) (t : TypeId)
    (ho : o.op = .call { callee := .builtin .append, args := #[s, x], argTypes := #[t, t] })
    (e : TypeId) (i : TypeInfo) (ht : P.underlying t = some (.slice e)) (hi : P.info? e = some i)
    (b : Option Addr) (n cap : Nat) (hle : n ≤ cap) (hs : a.eval s = .slice b n cap) (hx : a.eval x = .slice none 0 0)
    (h : K (a.put o.dst (.slice b n cap)) w) : Oper.wp P o a w K Q := by
  have hrun : (Builtin.append_ #[t, t] o.type #[.slice b n cap, .slice none 0 0]).run P w = .ok (.slice b n cap) w := by
    cases b <;> simp [Builtin.append_, run_underlying ht, sizeOf, typeInfo, hi, Builtin.lenOf, hle, Builtin.firstCells, storeCells]
  unfold Oper.wp
  simp [execOp, ho, resolve, invoke, builtin, hs, hx, hrun, Result.andThen]
  exact h
/-- a row of integers, those that a slice reads behind it -/
theorem wp_append_rd {o : Oper} {a : Act} {w : World} {K : Act → World → Prop} {Q : Exit → Act → World → Prop} (s x : Operand) (t : TypeId)
    (ho : o.op = .call { callee := .builtin .append, args := #[s, x], argTypes := #[t, t] }) (ht : Tryz.prog.underlying t = some (.slice 3))
    {base n c : Nat} {b : Option Addr} {ss : List Int} (hs : a.eval s = .slice b n c) (h : w.ownsRow base 3 1 (.slice b n c) n (intz ss)) (hn : n ≤ 100000) (hbase : base ≤ w.heap.size)
    {ca : Option Addr} {m cc : Nat} {ys : List Int} (hx : a.eval x = .slice ca m cc) (hm : ys.length = m) (hm2 : m ≤ 100000) (hr : RdZ w ca cc ys)
    (hk : ∀ b' c' w', w'.ownsRow base 3 1 (.slice b' (n + m) c') (n + m) (intz (ss ++ ys)) → w.grownBy w' (Value.ownBlock (.slice b n c)) → K (a.put o.dst (.slice b' (n + m) c')) w') : Oper.wp Tryz.prog o a w K Q := by
  obtain ⟨i0, hi, hz0, hz1, hz2⟩ := info_partsr infoInt10
  have hsum : intz (ss ++ ys) = intz ss ++ intz ys := by simp [intz]
  cases ca with
  | none =>
    have hy : ys = [] := by
      rcases hr.2.2 with ⟨e, _⟩ | ⟨b, o, e, _⟩
      · simpa [intz] using e
      · cases e
    have hc0 : cc = 0 := by
      rcases hr.2.2 with ⟨_, e⟩ | ⟨b, o, e, _⟩
      · exact e rfl
      · cases e
    subst hy hc0
    obtain rfl : m = 0 := by simpa using hm.symm
    have hle : n ≤ c := by
      rcases h.2 with ⟨e, h0⟩ | ⟨g, cap, cur, e, hb, hg, hnc, hc, hs, ht⟩
      · cases e; omega
      · cases e; omega
    refine wp_append_nil s x t ho 3 i0 ht hi b n c hle hs hx ?_
    exact hk b c w (by simpa using h) ⟨rfl, rfl, rfl, Nat.le_refl _, fun _ _ _ => rfl⟩
  | some ad =>
    refine wp_append_own w s x t ho base 3 i0 (.int .i64 0) 1 8 ht hi hz0 hz1 hz2 rfl (by decide) (.slice b n c) n (intz ss) hs h ad m cc (intz ys) hx (by rw [intz_length]; omega) ?_ ?_ (by unfold maxLen; omega) (by omega) hbase ?_
    · intro j u hu
      rcases hr.2.2 with ⟨e, _⟩ | ⟨b, o, e, hcell⟩
      · rw [e] at hu; cases hu
      · cases e; rw [Addr.add_lit]; exact hcell j u hu
    · intro u hu
      obtain ⟨z, _, rfl⟩ := List.mem_map.1 hu
      rfl
    · intro v' w' ho' hg' _
      obtain ⟨b', c', rfl⟩ := row_n ho'
      exact hk b' c' w' (by rw [hsum]; exact ho') hg'
end Go.Proofs.YtmhjimcdiglpcaaGreatDoor.Dr
/- sample.Systematic: up to nineteen sizes, any number, any start. -/
namespace Go.Proofs.YtmhjimcdiglpcaaGreatDoor.Dr
open Go.RowKit Go.Sort C6

/-- the start is none -/
def stB (q : Rat) : Prop := sgn q < 0 ∨ 0 ≤ cq q 1
def SysPost (xs : List Int) (n : Int) (q : Rat) (w : World) (e : Ending) (w' : World) : Prop := Below w.heap.size w w' ∧
  ((drE xs n ≠ 0 ∧ e = .returned (.tuple #[.slice none 0 0, .int .i64 (drE xs n)])) ∨
   (drE xs n = 0 ∧ stB q ∧ e = .returned (.tuple #[.slice none 0 0, .int .i64 103])) ∨
   (drE xs n = 0 ∧ ¬ stB q ∧ ∃ (m : Nat) (od : List Nat) (Kc : Nat) (a : Option Addr) (L c : Nat), n = (m : Int) ∧ 1 ≤ m ∧ m ≤ xs.length ∧ szs xs = true ∧ Ord xs.length (fx xs) od ∧ Cert xs.length (fx xs) od m Kc ∧
    e = .returned (.tuple #[.slice a L c, .int .i64 0]) ∧ L = (drawL (fx xs) (od.take Kc) ((m : Int) - (Kc : Int)) (T (fx xs) od Kc) q xs.length).length ∧ RdZ w' a c (iz (drawL (fx xs) (od.take Kc) ((m : Int) - (Kc : Int)) (T (fx xs) od Kc) q xs.length))))

set_option maxHeartbeats 16000000 in
set_option maxRecDepth 100000 in
theorem Systematic_v (xs : List Int) (n : Int) (to' : Option Addr) (cap : Nat) (s : Bool) (ao bo : Option Addr) (n0 ca0 m0 cb k : Nat) (q : Rat) (hk : 2 ≤ k ∧ k + k + 1 ≤ 549755813888) (w : World) (h19 : xs.length ≤ 19) (hr : RdZ w to' cap xs) (hq : RQ w s ao n0 ca0 bo m0 cb q k) :
    Calls Tryz.prog 9 #[.slice to' xs.length cap, .int .i64 n, .agg #[.bool s, .slice ao n0 ca0, .slice bo m0 cb]] w (SysPost xs n q w) := by
  obtain ⟨W1, hW1⟩ : ∃ W, W = w.alloc (.cells #[.bool s, .slice ao n0 ca0, .slice bo m0 cb] 32) := ⟨_, rfl⟩
  have b1 : Below w.heap.size w W1 := by rw [hW1]; exact below_new _ _
  have x1 : Hid (W1.heap[w.heap.size]? = some (.cells #[.bool s, .slice ao n0 ca0, .slice bo m0 cb] 32 (0, 0))) := by rw [hW1]; exact heap_alloc_new _ _
  have ND := Lib.hid (newDraw_v xs n to' cap W1 h19 (hr.below b1))
  have HQ1 : Hid (RQ W1 s ao n0 ca0 bo m0 cb q k) := hq.below b1
  have HB1 := Lib.hid b1
  have HKK := Lib.hid hk
  obtain ⟨N, hN⟩ : ∃ N, N = xs.length := ⟨_, rfl⟩
  unfold Hid at ND
  rw [← hN] at ND h19 ⊢
  have ND := Lib.hid ND
  have HN := Lib.hid hN
  clear hN hr b1 hq hk
  go_enter Tryz.func9, Tryz.ntmps9
  go_wp2_with fail
  rw [← hW1]
  clear hW1
  go_wp2_with fail
  refine ND.out.mono ?_; rintro e W2 ⟨b2, h2⟩
  rcases h2 with ⟨hE, rfl⟩ | ⟨hE, m, od, Kc, ca, pa, cc, pc, rfl, hm1, hmN, hsz, ho, hKc, rfl, hz, hp⟩
  · obtain ⟨E, hEE⟩ : ∃ E, E = drE xs n := ⟨_, rfl⟩
    have fin : Hid (∀ w', Below w.heap.size w w' → SysPost xs n q w (.returned (.tuple #[.slice none 0 0, .int .i64 E])) w') := fun w' hb => ⟨hb, .inl ⟨hE, by rw [hEE]⟩⟩
    rw [← hEE] at hE ⊢
    have hEb : (E != 0) = true := bne_iff_ne.2 hE
    obtain ⟨W3, hW3⟩ : ∃ W, W = W2.alloc (.cells #[.slice none 0 0, .slice none 0 0, .int .i64 0, .int .i64 0] 50) := ⟨_, rfl⟩
    have b12 := HB1.out.trans (b2.mono HB1.out.size)
    have HB3 : Hid (Below w.heap.size w W3) := b12.trans (by rw [hW3]; exact (below_new _ _).mono b12.size)
    clear hEE hE b2 b12 ND
    go_wp2_with fail
    try rw [← hW3]
    refine bodyPost_ret (v := .tuple #[.slice none 0 0, .int .i64 E]) (by simp [results, Tryz.results9, go_sem]) rfl ?_
    exact fin.out _ (by first | exact HB3.out | (rw [hW3] at HB3; exact HB3.out))
  · have hKN := hKc.le
    have hKm := hKc.K_le ho (fun i hi => szs_at hsz hi)
    obtain ⟨M, hM⟩ : ∃ M : Int, M = (m : Int) - (Kc : Int) := ⟨_, rfl⟩
    obtain ⟨A, hA⟩ : ∃ A, A = T (fx xs) od Kc := ⟨_, rfl⟩
    obtain ⟨l, hl⟩ : ∃ l, l = (lays (fx xs) (od.take Kc) ((m : Int) - (Kc : Int)) xs.length).1 := ⟨_, rfl⟩
    obtain ⟨ln, hln⟩ : ∃ ln, ln = l.length := ⟨_, rfl⟩
    have hMb : 0 ≤ M ∧ M ≤ 19 := by have := HN.out; omega
    have hx : ∀ i, i < xs.length → 1 ≤ fx xs i ∧ fx xs i ≤ 1099511627776 := fun i hi => szs_at hsz hi
    have LB := lays_bd (C := od.take Kc) (m := (m : Int) - (Kc : Int)) (by have := HN.out; omega) hx xs.length (Nat.le_refl _)
    have LM := lays_mem (C := od.take Kc) (m := (m : Int) - (Kc : Int)) (by have := HN.out; omega) hx xs.length (Nat.le_refl _)
    rw [← hl] at LB LM
    have hlnN : ln ≤ N := by rw [hln, HN.out]; exact LB.2.2
    have KLT : 0 < l.length → Kc < xs.length := fun h0 => by
      have := (LM _ (List.getElem_mem h0))
      by_cases e : Kc < xs.length
      · exact e
      · exfalso
        apply this.2.1
        rw [List.take_of_length_le (by rw [ho.len]; omega)]
        exact ho.mem this.1
    have HTA : 0 < l.length → 1 ≤ A ∧ A ≤ 4611686018427387904 := fun h0 => by
      have h1 := KLT h0
      have h2 := T_bd ho hx (xs.length - Kc) Kc (by omega)
      have h3 := HN.out
      rw [hA]
      omega
    obtain ⟨SL, hSL⟩ : ∃ SL, SL = selP A q l := ⟨_, rfl⟩
    obtain ⟨DL, hDL⟩ : ∃ DL, DL = drawL (fx xs) (od.take Kc) ((m : Int) - (Kc : Int)) (T (fx xs) od Kc) q xs.length := ⟨_, rfl⟩
    have PERM : Hid ((iz SL ++ iz (od.take Kc)).mergeSort (fun x y => decide (x ≤ y)) = iz DL) := by
      unfold Hid
      rw [show iz SL ++ iz (od.take Kc) = iz (SL ++ od.take Kc) by simp [iz], hSL, hDL, hA, hl]
      exact sort_draw (draw_perm ho _ _ q) (drawL_up _ _ _ _ _ _)
    have DLN : Hid (SL.length + Kc = DL.length) := by
      have := (draw_perm ho ((m : Int) - (Kc : Int)) (T (fx xs) od Kc) q (K := Kc)).length_eq
      rw [List.length_append, List.length_take, ho.len, ← hl, ← hA, ← hSL, hA, ← hDL] at this
      unfold Hid
      omega
    have hSL19 : SL.length ≤ 19 := by rw [hSL]; exact Nat.le_trans (selP_len _ _ _) (by omega)
    have SLB := Lib.hid hSL19
    have finB : Hid (stB q → ∀ w', Below w.heap.size w w' → SysPost xs (m : Int) q w (.returned (.tuple #[.slice none 0 0, .int .i64 103])) w') := fun hs w' hb => ⟨hb, .inr (.inl ⟨hE, hs, rfl⟩)⟩
    have fin : Hid (¬ stB q → ∀ w' a L c, Below w.heap.size w w' → L = DL.length → RdZ w' a c (iz DL) → SysPost xs (m : Int) q w (.returned (.tuple #[.slice a L c, .int .i64 0])) w') := fun hs w' a L c hb hL hq => ⟨hb, .inr (.inr ⟨hE, hs, m, od, Kc, a, L, c, rfl, hm1, hmN, hsz, ho, hKc, rfl, by rw [hL, hDL], by rw [← hDL]; exact hq⟩)⟩
    have hp' : RdP W2 pa pc l := by rw [hl]; exact hp
    have HLK : Hid ((iz (od.take Kc)).length = Kc) := by unfold Hid; rw [iz_len, List.length_take, ho.len]; omega
    rw [← hl, ← hM, ← hA, ← hln]
    obtain ⟨W3, hW3⟩ : ∃ W, W = W2.alloc (.cells #[.slice ca Kc cc, .slice pa ln pc, .int .i64 M, .int .i64 A] 50) := ⟨_, rfl⟩
    obtain ⟨g3, hg3⟩ : ∃ g, g = W2.heap.size := ⟨_, rfl⟩
    have b3 : Below W2.heap.size W2 W3 := by rw [hW3]; exact below_new _ _
    have D3 : Dc W3 g3 (.slice ca Kc cc) (.slice pa ln pc) M A := by rw [hW3, hg3]; exact cells4d _ _ _ _ _
    have b13 : Below W1.heap.size W1 W3 := b2.trans (b3.mono b2.size)
    have x3 := carry x1.out b13
    have HB3 : Hid (Below w.heap.size w W3) := HB1.out.trans (b13.mono HB1.out.size)
    have HZ3 : Hid (RdZ W3 ca cc (iz (od.take Kc))) := hz.below b3
    have HP3 : Hid (RdP W3 pa pc l) := hp'.below b3
    have HQ3 : Hid (RQ W3 s ao n0 ca0 bo m0 cb q k) := HQ1.out.below b13
    have K1 : Hid (∀ w', Below W3.heap.size W3 w' → w'.cell? ⟨g3, 0, none⟩ = some (.slice ca Kc cc) ∧ w'.cell? ⟨g3, 1, none⟩ = some (.slice pa ln pc) ∧ w'.cell? ⟨g3, 2, none⟩ = some (.int .i64 M) ∧ w'.cell? ⟨g3, 3, none⟩ = some (.int .i64 A) ∧ w'.cell? ⟨w.heap.size, 0, none⟩ = some (.bool s) ∧ w'.cell? ⟨w.heap.size, 1, none⟩ = some (.slice ao n0 ca0) ∧ w'.cell? ⟨w.heap.size, 2, none⟩ = some (.slice bo m0 cb)) := fun w' hb => by
      have dd : Dc w' g3 (.slice ca Kc cc) (.slice pa ln pc) M A := (hb.block _ D3.lt).trans D3
      obtain ⟨q0, q1, q2, q3, _⟩ := dd.cells
      obtain ⟨j0, j1, j2, _⟩ := at_block (carry x3 hb)
      exact ⟨q0, q1, q2, q3, j0, j1, j2⟩
    obtain ⟨S, hS⟩ : ∃ S, S = sgn q := ⟨_, rfl⟩
    obtain ⟨C2, hC2⟩ : ∃ C, C = cq q 1 := ⟨_, rfl⟩
    have hq0 : Hid (0 ≤ S → 0 ≤ q) := fun h => Rat.not_lt.1 (fun h2 => by have := (sgn_neg_iff q).2 h2; omega)
    have hq1 : Hid (C2 < 0 → q < 1) := fun h => (cq_neg_iff q 1).1 (by rw [← hC2]; omega)
    have SG : Hid (∀ w', Below W3.heap.size W3 w' → Calls Tryz.prog 24 #[.agg #[.bool s, .slice ao n0 ca0, .slice bo m0 cb]] w' fun e w2 => e = .returned (.int .i64 S) ∧ Below w'.heap.size w' w2) := fun w' hb => by rw [hS]; exact Sign_q _ _ _ _ _ _ _ k q w' (HQ3.out.below hb)
    have F1 : Hid (∀ w', Calls Tryz.prog 19 #[.int .i64 1] w' (MakesQ 1 2 w')) := fun w' => FromInt_q 1 (by omega) (by omega) w'
    have CM : Hid (∀ w', Below W3.heap.size W3 w' → ∀ t po n' ca' qo l cb', RQ w' t po n' ca' qo l cb' 1 2 → Calls Tryz.prog 25 #[.agg #[.bool s, .slice ao n0 ca0, .slice bo m0 cb], .agg #[.bool t, .slice po n' ca', .slice qo l cb']] w' fun e w2 => e = .returned (.int .i64 C2) ∧ Below w'.heap.size w' w2) := fun w' hb t po n' ca' qo l cb' h1 => by
      rw [hC2]; exact Compare_q _ _ _ _ _ _ _ _ _ _ _ _ _ _ k q 1 w' (HQ3.out.below hb) (h1.up HKK.out.1 (by have := HKK.out.2; omega)) HKK.out.2
    have HEND : 0 ≤ q → q < 1 → ∀ i (hi : i < l.length), pb A q (l[i]).2.1 = M → ∀ j (hj : j < l.length), i ≤ j → ¬ pb A q (l[j]).2.1 < pb A q (l[j]).2.2 := by
      rw [hA, hM, hl]
      intro h0 h1 i hi
      exact lays_end ho (KLT (by rw [hl]; omega)) (by omega) hx h0 h1 i hi
    have SEL : Hid (0 ≤ q → q < 1 → ∀ w', Below W3.heap.size W3 w' → Calls Tryz.prog 26 #[.agg #[.slice ca Kc cc, .slice pa ln pc, .int .i64 M, .int .i64 A], .agg #[.bool s, .slice ao n0 ca0, .slice bo m0 cb]] w' (SelPost SL w')) := fun h0 h1 w' hb => by
      rw [hSL, hln]
      exact selected_v _ pa pc l M A _ _ _ _ _ _ _ k q HKK.out HTA (by omega) (fun p hp => by
        obtain ⟨g1, g2, g3, g4, g5⟩ := LM p hp
        have := hx p.1 g1
        have h2 : 0 ≤ fx xs p.1 * ((m : Int) - (Kc : Int)) := Int.mul_nonneg (by omega) (by omega)
        have := HN.out
        omega) (HEND h0 h1) w' (HP3.out.below hb) (HQ3.out.below hb)
    have hSTB : Hid (stB q ↔ (S < 0 ∨ 0 ≤ C2)) := by unfold Hid stB; rw [hS, hC2]
    have E0 : ((0 : Int) != 0) = false := rfl
    have hK19 : Kc ≤ 19 := by have := HN.out; omega
    obtain ⟨q0, q1, q2, q3, j0, j1, j2⟩ := K1.out W3 (Below.refl _ _)
    clear HEND hE ho hKc hsz hm1 hmN hKm hM hA hl hx hp' hp hz b2 b3 b13 hln LB ND LM KLT HTA hSL hDL D3 x3 hMb hS hC2 hlnN hKN x1 HQ1 HB1 hSL19
    go_upto_region 4 with fail
    rw [← hW3]
    try rw [← hg3]
    clear hW3 hg3 q0 q1 q2 q3 j0 j1 j2
    by_cases hS0 : S < 0
    · have hd0 : decide (S < 0) = true := decide_eq_true hS0
      refine wp_region_held_drew (S := fun w' => Below W3.heap.size W3 w') (by kernel_rfl) ((Below.refl _ _).drew) (fun hH => ?_)
      refine wpAnyH_take (i := 0) (v := (.agg #[.bool s, .slice ao n0 ca0, .slice bo m0 cb])) rfl (by kernel_rfl) (by kernel_rfl) (by kernel_rfl) (fun _ _ _ h => h) (Or.inl ⟨by kernel_rfl, ?_⟩) hH ?_
      · intro w1 hB
        obtain ⟨k0, k1, k2, k3, j0, j1, j2⟩ := K1.out w1 hB
        go_simp
      change wpAnyH _ _ _ _ _ _ _ (Act.put _ (some 20) _) _
      try simp only [Act.put, List.setIfInBounds_toArray, List.set_cons_zero, List.set_cons_succ]
      refine wpAnyH_ready (rs := [1]) (by kernel_rfl) (by simp) ?_
      refine AllReadyH.cons rfl (fun K hK => ?_) AllReadyH.nil
      go_simp
      refine (SG.out _ hH).mono ?_
      rintro e V1 ⟨rfl, v1⟩
      try go_simp
      refine hK.out _ _ (keepB v1 hH (Nat.le_refl _)) (fun hH1 => ?_)
      clear hK K
      try simp only [Act.put, List.setIfInBounds_toArray, List.set_cons_zero, List.set_cons_succ]
      refine wpAnyH_take (i := 2) (v := (.bool true)) rfl (by kernel_rfl) (by kernel_rfl) (by kernel_rfl) (fun _ _ _ h => h) (Or.inl ⟨by kernel_rfl, ?_⟩) hH1 ?_
      · intro w1 hB
        go_simp
      change wpAnyH _ _ _ _ _ _ _ (Act.put _ (some 22) _) _
      try simp only [Act.put, List.setIfInBounds_toArray, List.set_cons_zero, List.set_cons_succ]
      refine wpAnyH_take (i := 3) (v := (.bool true)) rfl (by kernel_rfl) (by kernel_rfl) (by kernel_rfl) (fun _ _ _ h => h) (Or.inl ⟨by kernel_rfl, ?_⟩) hH1 ?_
      · intro w1 hB
        go_simp
      change wpAnyH _ _ _ _ _ _ _ (Act.put _ (some 23) _) _
      try simp only [Act.put, List.setIfInBounds_toArray, List.set_cons_zero, List.set_cons_succ]
      refine wpAnyH_take (i := 4) (v := undef) rfl (by kernel_rfl) (by kernel_rfl) (by kernel_rfl) (fun _ _ _ h => h) (Or.inr ⟨by kernel_rfl, rfl⟩) hH1 ?_
      change wpAnyH _ _ _ _ _ _ _ (Act.put _ (some 24) _) _
      try simp only [Act.put, List.setIfInBounds_toArray, List.set_cons_zero, List.set_cons_succ]
      refine wpAnyH_take (i := 5) (v := undef) rfl (by kernel_rfl) (by kernel_rfl) (by kernel_rfl) (fun _ _ _ h => h) (Or.inr ⟨by kernel_rfl, rfl⟩) hH1 ?_
      change wpAnyH _ _ _ _ _ _ _ (Act.put _ (some 25) _) _
      try simp only [Act.put, List.setIfInBounds_toArray, List.set_cons_zero, List.set_cons_succ]
      refine wpAnyH_take (i := 6) (v := undef) rfl (by kernel_rfl) (by kernel_rfl) (by kernel_rfl) (fun _ _ _ h => h) (Or.inr ⟨by kernel_rfl, rfl⟩) hH1 ?_
      change wpAnyH _ _ _ _ _ _ _ (Act.put _ (some 26) _) _
      try simp only [Act.put, List.setIfInBounds_toArray, List.set_cons_zero, List.set_cons_succ]
      refine wpAnyH_take (i := 7) (v := undef) rfl (by kernel_rfl) (by kernel_rfl) (by kernel_rfl) (fun _ _ _ h => h) (Or.inr ⟨by kernel_rfl, rfl⟩) hH1 ?_
      change wpAnyH _ _ _ _ _ _ _ (Act.put _ (some 27) _) _
      try simp only [Act.put, List.setIfInBounds_toArray, List.set_cons_zero, List.set_cons_succ]
      refine wpAnyH_take (i := 8) (v := (.bool true)) rfl (by kernel_rfl) (by kernel_rfl) (by kernel_rfl) (fun _ _ _ h => h) (Or.inl ⟨by kernel_rfl, ?_⟩) hH1 ?_
      · intro w1 hB
        go_simp
      change wpAnyH _ _ _ _ _ _ _ (Act.put _ (some 28) _) _
      try simp only [Act.put, List.setIfInBounds_toArray, List.set_cons_zero, List.set_cons_succ]
      refine wpAnyH_done (by kernel_rfl) ?_ _
      have BV : Below W3.heap.size W3 _ := hH1
      have HV := Lib.hid (HB3.out.trans (BV.mono HB3.out.size))
      clear BV K1 SG F1 CM SEL
      go_wp2_with fail
      refine bodyPost_ret (v := .tuple #[.slice none 0 0, .int .i64 103]) (by simp [results, Tryz.results9, go_sem]) rfl ?_
      exact finB.out (hSTB.out.2 (.inl hS0)) _ HV.out
    · have hd0 : decide (S < 0) = false := decide_eq_false hS0
      by_cases hC0 : 0 ≤ C2
      · have hd1 : decide (0 ≤ C2) = true := decide_eq_true hC0
        refine wp_region_held_drew (S := fun w' => Below W3.heap.size W3 w') (by kernel_rfl) ((Below.refl _ _).drew) (fun hH => ?_)
        refine wpAnyH_take (i := 0) (v := (.agg #[.bool s, .slice ao n0 ca0, .slice bo m0 cb])) rfl (by kernel_rfl) (by kernel_rfl) (by kernel_rfl) (fun _ _ _ h => h) (Or.inl ⟨by kernel_rfl, ?_⟩) hH ?_
        · intro w1 hB
          obtain ⟨k0, k1, k2, k3, j0, j1, j2⟩ := K1.out w1 hB
          go_simp
        change wpAnyH _ _ _ _ _ _ _ (Act.put _ (some 20) _) _
        try simp only [Act.put, List.setIfInBounds_toArray, List.set_cons_zero, List.set_cons_succ]
        refine wpAnyH_ready (rs := [1]) (by kernel_rfl) (by simp) ?_
        refine AllReadyH.cons rfl (fun K hK => ?_) AllReadyH.nil
        go_simp
        refine (SG.out _ hH).mono ?_
        rintro e V1 ⟨rfl, v1⟩
        try go_simp
        refine hK.out _ _ (keepB v1 hH (Nat.le_refl _)) (fun hH1 => ?_)
        clear hK K
        try simp only [Act.put, List.setIfInBounds_toArray, List.set_cons_zero, List.set_cons_succ]
        refine wpAnyH_take (i := 2) (v := (.bool false)) rfl (by kernel_rfl) (by kernel_rfl) (by kernel_rfl) (fun _ _ _ h => h) (Or.inl ⟨by kernel_rfl, ?_⟩) hH1 ?_
        · intro w1 hB
          go_simp
        change wpAnyH _ _ _ _ _ _ _ (Act.put _ (some 22) _) _
        try simp only [Act.put, List.setIfInBounds_toArray, List.set_cons_zero, List.set_cons_succ]
        refine wpAnyH_take (i := 3) (v := (.bool false)) rfl (by kernel_rfl) (by kernel_rfl) (by kernel_rfl) (fun _ _ _ h => h) (Or.inl ⟨by kernel_rfl, ?_⟩) hH1 ?_
        · intro w1 hB
          go_simp
        change wpAnyH _ _ _ _ _ _ _ (Act.put _ (some 23) _) _
        try simp only [Act.put, List.setIfInBounds_toArray, List.set_cons_zero, List.set_cons_succ]
        refine wpAnyH_take (i := 4) (v := (.agg #[.bool s, .slice ao n0 ca0, .slice bo m0 cb])) rfl (by kernel_rfl) (by kernel_rfl) (by kernel_rfl) (fun _ _ _ h => h) (Or.inl ⟨by kernel_rfl, ?_⟩) hH1 ?_
        · intro w1 hB
          obtain ⟨k0, k1, k2, k3, j0, j1, j2⟩ := K1.out w1 hB
          go_simp
        change wpAnyH _ _ _ _ _ _ _ (Act.put _ (some 24) _) _
        try simp only [Act.put, List.setIfInBounds_toArray, List.set_cons_zero, List.set_cons_succ]
        refine wpAnyH_ready (rs := [5]) (by kernel_rfl) (by simp) ?_
        refine AllReadyH.cons rfl (fun K hK => ?_) AllReadyH.nil
        go_simp
        refine (F1.out _).mono ?_
        rintro e V5 ⟨s5, a5, n5, c5, o5, m5, d5, rfl, cq5, v5⟩
        try go_simp
        refine hK.out _ _ (keepB v5 hH1 (Nat.le_refl _)) (fun hH5 => ?_)
        clear hK K
        try simp only [Act.put, List.setIfInBounds_toArray, List.set_cons_zero, List.set_cons_succ]
        refine wpAnyH_ready (rs := [6]) (by kernel_rfl) (by simp) ?_
        refine AllReadyH.cons rfl (fun K hK => ?_) AllReadyH.nil
        go_simp
        refine (CM.out _ hH5 s5 a5 n5 c5 o5 m5 d5 cq5.rq).mono ?_
        rintro e V6 ⟨rfl, v6⟩
        try go_simp
        refine hK.out _ _ (keepB v6 hH5 (Nat.le_refl _)) (fun hH6 => ?_)
        clear hK K
        try simp only [Act.put, List.setIfInBounds_toArray, List.set_cons_zero, List.set_cons_succ]
        refine wpAnyH_take (i := 7) (v := (.bool true)) rfl (by kernel_rfl) (by kernel_rfl) (by kernel_rfl) (fun _ _ _ h => h) (Or.inl ⟨by kernel_rfl, ?_⟩) hH6 ?_
        · intro w1 hB
          go_simp
        change wpAnyH _ _ _ _ _ _ _ (Act.put _ (some 27) _) _
        try simp only [Act.put, List.setIfInBounds_toArray, List.set_cons_zero, List.set_cons_succ]
        refine wpAnyH_take (i := 8) (v := (.bool true)) rfl (by kernel_rfl) (by kernel_rfl) (by kernel_rfl) (fun _ _ _ h => h) (Or.inl ⟨by kernel_rfl, ?_⟩) hH6 ?_
        · intro w1 hB
          go_simp
        change wpAnyH _ _ _ _ _ _ _ (Act.put _ (some 28) _) _
        try simp only [Act.put, List.setIfInBounds_toArray, List.set_cons_zero, List.set_cons_succ]
        refine wpAnyH_done (by kernel_rfl) ?_ _
        have BV : Below W3.heap.size W3 _ := hH6
        have HV := Lib.hid (HB3.out.trans (BV.mono HB3.out.size))
        clear BV K1 SG F1 CM SEL
        go_wp2_with fail
        refine bodyPost_ret (v := .tuple #[.slice none 0 0, .int .i64 103]) (by simp [results, Tryz.results9, go_sem]) rfl ?_
        exact finB.out (hSTB.out.2 (.inr hC0)) _ HV.out
      · have hd1 : decide (0 ≤ C2) = false := decide_eq_false hC0
        have SEL := Lib.hid (SEL.out (hq0.out (by omega)) (hq1.out (by omega)))
        have HGOOD : Hid (¬ stB q) := fun h => by rcases hSTB.out.1 h with h | h <;> omega
        clear hq0 hq1
        refine wp_region_held_drew (S := fun w' => Below W3.heap.size W3 w') (by kernel_rfl) ((Below.refl _ _).drew) (fun hH => ?_)
        refine wpAnyH_take (i := 0) (v := (.agg #[.bool s, .slice ao n0 ca0, .slice bo m0 cb])) rfl (by kernel_rfl) (by kernel_rfl) (by kernel_rfl) (fun _ _ _ h => h) (Or.inl ⟨by kernel_rfl, ?_⟩) hH ?_
        · intro w1 hB
          obtain ⟨k0, k1, k2, k3, j0, j1, j2⟩ := K1.out w1 hB
          go_simp
        change wpAnyH _ _ _ _ _ _ _ (Act.put _ (some 20) _) _
        try simp only [Act.put, List.setIfInBounds_toArray, List.set_cons_zero, List.set_cons_succ]
        refine wpAnyH_ready (rs := [1]) (by kernel_rfl) (by simp) ?_
        refine AllReadyH.cons rfl (fun K hK => ?_) AllReadyH.nil
        go_simp
        refine (SG.out _ hH).mono ?_
        rintro e V1 ⟨rfl, v1⟩
        try go_simp
        refine hK.out _ _ (keepB v1 hH (Nat.le_refl _)) (fun hH1 => ?_)
        clear hK K
        try simp only [Act.put, List.setIfInBounds_toArray, List.set_cons_zero, List.set_cons_succ]
        refine wpAnyH_take (i := 2) (v := (.bool false)) rfl (by kernel_rfl) (by kernel_rfl) (by kernel_rfl) (fun _ _ _ h => h) (Or.inl ⟨by kernel_rfl, ?_⟩) hH1 ?_
        · intro w1 hB
          go_simp
        change wpAnyH _ _ _ _ _ _ _ (Act.put _ (some 22) _) _
        try simp only [Act.put, List.setIfInBounds_toArray, List.set_cons_zero, List.set_cons_succ]
        refine wpAnyH_take (i := 3) (v := (.bool false)) rfl (by kernel_rfl) (by kernel_rfl) (by kernel_rfl) (fun _ _ _ h => h) (Or.inl ⟨by kernel_rfl, ?_⟩) hH1 ?_
        · intro w1 hB
          go_simp
        change wpAnyH _ _ _ _ _ _ _ (Act.put _ (some 23) _) _
        try simp only [Act.put, List.setIfInBounds_toArray, List.set_cons_zero, List.set_cons_succ]
        refine wpAnyH_take (i := 4) (v := (.agg #[.bool s, .slice ao n0 ca0, .slice bo m0 cb])) rfl (by kernel_rfl) (by kernel_rfl) (by kernel_rfl) (fun _ _ _ h => h) (Or.inl ⟨by kernel_rfl, ?_⟩) hH1 ?_
        · intro w1 hB
          obtain ⟨k0, k1, k2, k3, j0, j1, j2⟩ := K1.out w1 hB
          go_simp
        change wpAnyH _ _ _ _ _ _ _ (Act.put _ (some 24) _) _
        try simp only [Act.put, List.setIfInBounds_toArray, List.set_cons_zero, List.set_cons_succ]
        refine wpAnyH_ready (rs := [5]) (by kernel_rfl) (by simp) ?_
        refine AllReadyH.cons rfl (fun K hK => ?_) AllReadyH.nil
        go_simp
        refine (F1.out _).mono ?_
        rintro e V5 ⟨s5, a5, n5, c5, o5, m5, d5, rfl, cq5, v5⟩
        try go_simp
        refine hK.out _ _ (keepB v5 hH1 (Nat.le_refl _)) (fun hH5 => ?_)
        clear hK K
        try simp only [Act.put, List.setIfInBounds_toArray, List.set_cons_zero, List.set_cons_succ]
        refine wpAnyH_ready (rs := [6]) (by kernel_rfl) (by simp) ?_
        refine AllReadyH.cons rfl (fun K hK => ?_) AllReadyH.nil
        go_simp
        refine (CM.out _ hH5 s5 a5 n5 c5 o5 m5 d5 cq5.rq).mono ?_
        rintro e V6 ⟨rfl, v6⟩
        try go_simp
        refine hK.out _ _ (keepB v6 hH5 (Nat.le_refl _)) (fun hH6 => ?_)
        clear hK K
        try simp only [Act.put, List.setIfInBounds_toArray, List.set_cons_zero, List.set_cons_succ]
        refine wpAnyH_take (i := 7) (v := (.bool false)) rfl (by kernel_rfl) (by kernel_rfl) (by kernel_rfl) (fun _ _ _ h => h) (Or.inl ⟨by kernel_rfl, ?_⟩) hH6 ?_
        · intro w1 hB
          go_simp
        change wpAnyH _ _ _ _ _ _ _ (Act.put _ (some 27) _) _
        try simp only [Act.put, List.setIfInBounds_toArray, List.set_cons_zero, List.set_cons_succ]
        refine wpAnyH_take (i := 8) (v := (.bool false)) rfl (by kernel_rfl) (by kernel_rfl) (by kernel_rfl) (fun _ _ _ h => h) (Or.inl ⟨by kernel_rfl, ?_⟩) hH6 ?_
        · intro w1 hB
          go_simp
        change wpAnyH _ _ _ _ _ _ _ (Act.put _ (some 28) _) _
        try simp only [Act.put, List.setIfInBounds_toArray, List.set_cons_zero, List.set_cons_succ]
        refine wpAnyH_done (by kernel_rfl) ?_ _
        have BV6 : Hid (Below W3.heap.size W3 V6) := hH6
        clear SG F1 CM
        go_upto_region 6 with fail
        refine wp_region_held_drew (S := fun w' => Below V6.heap.size V6 w') (by kernel_rfl) ((Below.refl _ _).drew) (fun hH => ?_)
        refine wpAnyH_take (i := 0) (v := (.agg #[.slice ca Kc cc, .slice pa ln pc, .int .i64 M, .int .i64 A])) rfl (by kernel_rfl) (by kernel_rfl) (by kernel_rfl) (fun _ _ _ h => h) (Or.inl ⟨by kernel_rfl, ?_⟩) hH ?_
        · intro w1 hB
          obtain ⟨k0, k1, k2, k3, j0, j1, j2⟩ := K1.out w1 (BV6.out.trans (hB.mono BV6.out.size))
          go_simp
        change wpAnyH _ _ _ _ _ _ _ (Act.put _ (some 29) _) _
        try simp only [Act.put, List.setIfInBounds_toArray, List.set_cons_zero, List.set_cons_succ]
        refine wpAnyH_take (i := 1) (v := (.agg #[.bool s, .slice ao n0 ca0, .slice bo m0 cb])) rfl (by kernel_rfl) (by kernel_rfl) (by kernel_rfl) (fun _ _ _ h => h) (Or.inl ⟨by kernel_rfl, ?_⟩) hH ?_
        · intro w1 hB
          obtain ⟨k0, k1, k2, k3, j0, j1, j2⟩ := K1.out w1 (BV6.out.trans (hB.mono BV6.out.size))
          go_simp
        change wpAnyH _ _ _ _ _ _ _ (Act.put _ (some 30) _) _
        try simp only [Act.put, List.setIfInBounds_toArray, List.set_cons_zero, List.set_cons_succ]
        refine wpAnyH_take (i := 3) (v := (.pointer (some ⟨g3, 0, none⟩))) rfl (by kernel_rfl) (by kernel_rfl) (by kernel_rfl) (fun _ _ _ h => h) (Or.inl ⟨by kernel_rfl, ?_⟩) hH ?_
        · intro w1 hB
          go_simp
        change wpAnyH _ _ _ _ _ _ _ (Act.put _ (some 32) _) _
        try simp only [Act.put, List.setIfInBounds_toArray, List.set_cons_zero, List.set_cons_succ]
        refine wpAnyH_take (i := 4) (v := (.slice ca Kc cc)) rfl (by kernel_rfl) (by kernel_rfl) (by kernel_rfl) (fun _ _ _ h => h) (Or.inl ⟨by kernel_rfl, ?_⟩) hH ?_
        · intro w1 hB
          obtain ⟨k0, k1, k2, k3, j0, j1, j2⟩ := K1.out w1 (BV6.out.trans (hB.mono BV6.out.size))
          go_simp
        change wpAnyH _ _ _ _ _ _ _ (Act.put _ (some 33) _) _
        try simp only [Act.put, List.setIfInBounds_toArray, List.set_cons_zero, List.set_cons_succ]
        refine wpAnyH_ready (rs := [2]) (by kernel_rfl) (by simp) ?_
        refine AllReadyH.cons rfl (fun K hK => ?_) AllReadyH.nil
        go_simp
        refine (SEL.out _ (BV6.out.trans (Below.mono hH BV6.out.size))).mono ?_
        rintro e V7 ⟨a7, n7, c7, rfl, hn7p, hown7, v7⟩
        have hn7 := Lib.hid hn7p
        clear hn7p
        try go_simp
        refine hK.out _ _ (keepB v7 hH (Nat.le_refl _)) (fun hH2 => ?_)
        clear hK K
        try simp only [Act.put, List.setIfInBounds_toArray, List.set_cons_zero, List.set_cons_succ]
        refine wpAnyH_ready (rs := [5]) (by kernel_rfl) (by simp) ?_
        refine AllReadyH.cons rfl (fun K hK => ?_) AllReadyH.nil
        rw [if_pos (by simp [Region.wanted])]
        refine wp_append_rd (.tmp 31) (.tmp 33) 22 (by rfl) Tryz.underlying22 (b := a7) (n := n7) (c := c7) (ss := iz SL) (by rfl) hown7 (by have := SLB.out; have := hn7.out; omega) (show V6.heap.size ≤ V7.heap.size from (hH2).size) (ca := ca) (m := Kc) (cc := cc) (ys := iz (od.take Kc)) (by rfl) HLK.out (by omega) (HZ3.out.below (BV6.out.trans (Below.mono hH2 BV6.out.size))) ?_
        intro a8 c8 V8 hown8 hgr8
        try go_simp
        refine hK.out _ _ (Below.grown hH2 hgr8 (Below.size hH2) (fun k e => (hown7.lt k e).1)) (fun hH5 => ?_)
        clear hK K
        try simp only [Act.put, List.setIfInBounds_toArray, List.set_cons_zero, List.set_cons_succ]
        refine wpAnyH_take (i := 6) (v := (.slice a8 (n7 + Kc) c8)) rfl (by kernel_rfl) (by kernel_rfl) (by kernel_rfl) (fun _ _ _ h => h) (Or.inl ⟨by kernel_rfl, ?_⟩) hH5 ?_
        · intro w1 hB
          go_simp
        change wpAnyH _ _ _ _ _ _ _ (Act.put _ (some 10) _) _
        try simp only [Act.put, List.setIfInBounds_toArray, List.set_cons_zero, List.set_cons_succ]
        refine wpAnyH_done (by kernel_rfl) ?_ _
        have BV8 : Below V6.heap.size V6 V8 := hH5
        have hn8 : n7 + Kc ≤ 100000 := by have := SLB.out; have := hn7.out; omega
        have SO := sortI_v V8 hown8 hn8
        rw [PERM.out] at SO
        have SO := Lib.hid SO
        have HL8 : Hid (n7 + Kc = DL.length) := by rw [hn7.out]; exact DLN.out
        have BW8 : Hid (Below W3.heap.size W3 V8) := BV6.out.trans (BV8.mono BV6.out.size)
        have HOW := Lib.hid hown8
        have HSZ6 : Hid (W3.heap.size ≤ V6.heap.size) := BV6.out.size
        clear BV8 K1 SEL hgr8
        go_wp2_with fail
        refine SO.out.mono ?_; rintro e V9 ⟨rfl, hown9, hgr9⟩
        have HR9 : Hid (RdZ V9 a8 c8 (iz DL)) := rdz_row (by rw [iz_len]; exact HL8.out.symm) hown9
        have HB9 : Hid (Below W3.heap.size W3 V9) := BW8.out.grown hgr9 BW8.out.size (fun k e => Nat.le_trans HSZ6.out (HOW.out.lt k e).1)
        clear hown9 hgr9
        go_wp2_with fail
        refine bodyPost_ret (v := .tuple #[.slice a8 (n7 + Kc) c8, .int .i64 0]) (by simp [results, Tryz.results9, go_sem]) rfl ?_
        exact fin.out HGOOD.out _ _ _ _ (HB3.out.trans (HB9.out.mono HB3.out.size)) HL8.out HR9.out
end Go.Proofs.YtmhjimcdiglpcaaGreatDoor.Dr
/- The sample as the document describes it: a unit is drawn at each point that its part of the line holds. -/
namespace Go.Proofs.YtmhjimcdiglpcaaGreatDoor.Dr

/-- where a unit's part of the line begins -/
def lowS (x : Nat → Int) (C : List Nat) (i : Nat) : Int := ((List.range i).map (fun u => if u ∈ C then 0 else x u)).sum
theorem lowS_zero (x : Nat → Int) (C : List Nat) : lowS x C 0 = 0 := rfl
theorem lowS_succ (x : Nat → Int) (C : List Nat) (i : Nat) : lowS x C (i + 1) = lowS x C i + (if i ∈ C then 0 else x i) := by
  unfold lowS
  rw [List.range_succ, List.map_append, List.sum_append]
  simp
theorem lowS_lays (x : Nat → Int) (C : List Nat) (M : Int) (i : Nat) : (lays x C M i).2 = lowS x C i * M := lays_sum x C M i
theorem lowS_bd {x : Nat → Int} {C : List Nat} {N : Nat} (hx : ∀ i, i < N → 1 ≤ x i ∧ x i ≤ 1099511627776) : ∀ i, i ≤ N → 0 ≤ lowS x C i ∧ lowS x C i ≤ (i : Int) * 1099511627776 := by
  intro i
  induction i with
  | zero => intro _; rw [lowS_zero]; omega
  | succ i ih =>
    intro hi
    have h1 := ih (by omega)
    have h2 := hx i (by omega)
    rw [lowS_succ]
    split <;> omega
/-- a point before a place -/
theorem at_lt {A M p : Int} {q : Rat} (hA : 1 ≤ A) (hM : 1 ≤ M) (h0 : 0 ≤ q) (h1 : q < 1) (k : Nat) : cq ((q + (k : Rat)) * fq A M) (p : Rat) < 0 ↔ (k : Int) < pb A q (p * M) := by
  have hMr : (0 : Rat) < (M : Rat) := by
    have : ((0 : Int) : Rat) < (M : Rat) := Rat.intCast_lt_intCast.2 (by omega)
    simpa using this
  rw [cq_neg_iff, ← pb_iff hA h0 h1 k, fq_div (by omega) (by omega), Rat.intCast_mul]
  have e : (q + (k : Rat)) * ((A : Rat) / (M : Rat)) = ((q + (k : Rat)) * (A : Rat)) / (M : Rat) := by
    rw [Rat.div_def, Rat.div_def, Rat.mul_assoc]
  rw [e, Rat.div_lt_iff hMr]
/-- the units drawn once k points were held against unit i -/
def hitK (x : Nat → Int) (C : List Nat) (M A : Int) (q : Rat) (i k : Nat) : List Nat := drawL x C M A q i ++ (if selB x C M A q i = true ∧ pb A q (lays x C M i).2 < (k : Int) then [i] else [])
theorem hitK_zero {x : Nat → Int} {C : List Nat} {M A : Int} {q : Rat} {i : Nat} (hA : 1 ≤ A) (h : 0 ≤ (lays x C M i).2) : hitK x C M A q i 0 = drawL x C M A q i := by
  have := pb_nonneg (s := q) hA h
  unfold hitK
  rw [if_neg (fun h2 => by have := h2.2; omega), List.append_nil]
theorem hitK_len (x : Nat → Int) (C : List Nat) (M A : Int) (q : Rat) (i k : Nat) : (hitK x C M A q i k).length ≤ i + 1 := by
  unfold hitK
  rw [List.length_append]
  have h1 : (drawL x C M A q i).length ≤ i := by
    unfold drawL
    refine Nat.le_trans (List.length_filter_le _ _) ?_
    rw [List.length_range]; exact Nat.le_refl _
  split <;> simp <;> omega
/-- a point is held against a unit -/
def isHit (x : Nat → Int) (C : List Nat) (M A : Int) (q : Rat) (i k : Nat) : Prop := ¬ (k : Int) < pb A q (lays x C M i).2 ∧ (k : Int) < pb A q ((lays x C M i).2 + x i * M)
theorem hitK_hit {x : Nat → Int} {C : List Nat} {M A : Int} {q : Rat} {i k : Nat} (hA : 1 ≤ A) (hl : 0 ≤ (lays x C M i).2) (hx : x i * M < A) (h0 : 0 ≤ q) (h1 : q < 1) (h : isHit x C M A q i k) : hitK x C M A q i (k + 1) = hitK x C M A q i k ++ [i] := by
  have hs := pb_step (p := (lays x C M i).2) (q := (lays x C M i).2 + x i * M) hA hl (by omega) h0 h1
  obtain ⟨g1, g2⟩ := h
  have e : selB x C M A q i = true := decide_eq_true (by omega)
  unfold hitK
  rw [if_pos ⟨e, by omega⟩, if_neg (fun h2 => by have := h2.2; omega), List.append_nil]
theorem hitK_not {x : Nat → Int} {C : List Nat} {M A : Int} {q : Rat} {i k : Nat} (h : ¬ isHit x C M A q i k) : hitK x C M A q i (k + 1) = hitK x C M A q i k := by
  unfold hitK
  congr 1
  by_cases e : selB x C M A q i = true
  · have e2 : pb A q (lays x C M i).2 < pb A q ((lays x C M i).2 + x i * M) := of_decide_eq_true e
    by_cases e3 : pb A q (lays x C M i).2 < (k : Int)
    · rw [if_pos ⟨e, by omega⟩, if_pos ⟨e, e3⟩]
    · rw [if_neg (fun h2 => by
        have h3 := h2.2
        exact h ⟨by omega, by omega⟩), if_neg (fun h2 => e3 h2.2)]
  · rw [if_neg (fun h2 => e h2.1), if_neg (fun h2 => e h2.1)]
theorem hitK_all {N : Nat} {x : Nat → Int} {od : List Nat} {K : Nat} {M : Int} {q : Rat} {i m : Nat} (ho : Ord N x od) (hA : 1 ≤ T x od K) (hm : M = (m : Int)) (hx : ∀ i, i < N → 1 ≤ x i ∧ x i ≤ 1099511627776) (h0 : 0 ≤ q) (h1 : q < 1) (hi : i < N) (hc : ¬ i ∈ od.take K) :
    hitK x (od.take K) M (T x od K) q i m = drawL x (od.take K) M (T x od K) q (i + 1) := by
  rw [drawL_succ]
  unfold hitK
  congr 1
  have e : hitB x (od.take K) M (T x od K) q i = selB x (od.take K) M (T x od K) q i := by simp [hitB, hc]
  rw [e]
  by_cases e2 : selB x (od.take K) M (T x od K) q i = true
  · rw [if_pos e2]
    have e3 : pb (T x od K) q (lays x (od.take K) M i).2 < pb (T x od K) q ((lays x (od.take K) M i).2 + x i * M) := of_decide_eq_true e2
    have a1 := lays_up (C := od.take K) (M := M) (by omega) (fun i hi => (hx i hi).1) (N - (i + 1)) (i + 1) (by omega)
    rw [show i + 1 + (N - (i + 1)) = N by omega, lays_total ho M, lays_out hc] at a1
    simp only at a1
    have a2 := pb_top (s := q) hA (by omega) a1 h0 h1
    rw [if_pos ⟨e2, by omega⟩]
  · rw [if_neg e2, if_neg (fun h2 => e2 h2.1)]
end Go.Proofs.YtmhjimcdiglpcaaGreatDoor.Dr
/- The reference's quotient; its samples that are none. -/
namespace Go.Proofs.YtmhjimcdiglpcaaGreatDoor.Dr
open Go.RowKit Go.Sort C6

/-- an error of the sizes, the number or the start -/
def sysE (xs : List Int) (n : Int) (_q : Rat) : Int := if drE xs n ≠ 0 then drE xs n else 103
end Go.Proofs.YtmhjimcdiglpcaaGreatDoor.Dr
/- Systematic of the reference: a sample. -/
namespace Go.Proofs.YtmhjimcdiglpcaaGreatDoor.Dr
open Go.RowKit Go.Sort C6

theorem rq_int (n : Int) : rq (decide (n < 0)) n.natAbs 1 = (n : Rat) := by
  unfold rq
  have e : sg (decide (n < 0)) n.natAbs = n := by
    show (if _ then _ else _) = _
    by_cases h : n < 0
    · rw [decide_eq_true h, if_pos rfl]; omega
    · rw [decide_eq_false h, if_neg (by decide)]; omega
  rw [e, Rat.mkRat_one]
theorem rFromInt_z (n : Int) (h0 : -9223372036854775808 ≤ n) (h1 : n ≤ 9223372036854775807) (w : World) : Calls Tryz.prog 23 #[.int .i64 n] w (MakesQ (n : Rat) 2 w) := by
  have h := rFromInt_q n h0 h1 w
  rwa [rq_int] at h
theorem Cert.less {N : Nat} {x : Nat → Int} {od : List Nat} {m K : Nat} (c : Cert N x od m K) (h : Ord N x od) (hx : ∀ i, i < N → 1 ≤ x i ∧ x i ≤ 1099511627776) (hK : K < N) {i : Nat} (hi : i < N) (hn : i ∉ od.take K) : x i * ((m : Int) - (K : Int)) < T x od K := by
  have h1 := (h.best hK hi hn).1
  have h2 := c.stop hK
  have h3 := c.K_le h hx
  have h4 : x i * ((m : Int) - (K : Int)) ≤ x (od.getD K 0) * ((m : Int) - (K : Int)) := Int.mul_le_mul_of_nonneg_right h1 (by omega)
  omega

end Go.Proofs.YtmhjimcdiglpcaaGreatDoor.Dr
/- What the code's Systematic gives the reference's gives, too. -/
namespace Go.Proofs.YtmhjimcdiglpcaaGreatDoor.Dr
open Go.RowKit Go.Sort C6

theorem RdZ_nil (w : World) : RdZ w none 0 [] := ⟨by simp [intz], by omega, .inl ⟨by simp [intz], fun _ => rfl⟩⟩
end Go.Proofs.YtmhjimcdiglpcaaGreatDoor.Dr
