import Derived.Test.YtcnghhlchjcdhaaDrF
import Derived.Test.YtcnghhlchjcdhaaDrE
import Derived.Test.YtcnghhlchjcdhaaEstA
import Derived.Test.YtcnghhlchjcdhaaSmpAw
import Derived.Test.YtcnghhlchjcdhaaInts10
import Derived.Test.YtcnghhlchjcdhaaDrA
/- The mean of the estimated totals over all starts is the total. -/
namespace Go.Proofs.Ytcnghhlchjcdhaa.Dr
open Go.RowKit

def qs (f : Nat → Rat) (N : Nat) : Rat := qsum ((List.range N).map f)
theorem qs_succ (f : Nat → Rat) (N : Nat) : qs f (N + 1) = qs f N + f N := by
  unfold qs
  rw [List.range_succ, List.map_append, List.map_cons, List.map_nil, qsum_snoc]
theorem qs_zero (f : Nat → Rat) : qs f 0 = 0 := by simp [qs, qsum]
theorem qs_congr {f g : Nat → Rat} : ∀ N, (∀ u, u < N → f u = g u) → qs f N = qs g N
  | 0, _ => by rw [qs_zero, qs_zero]
  | N + 1, h => by rw [qs_succ, qs_succ, qs_congr N (fun u hu => h u (by omega)), h N (by omega)]
theorem qs_lin (f g : Nat → Rat) (c : Rat) : ∀ N, qs (fun u => f u + g u * c) N = qs f N + qs g N * c
  | 0 => by rw [qs_zero, qs_zero, qs_zero]; grind
  | N + 1 => by rw [qs_succ, qs_succ, qs_succ, qs_lin f g c N]; grind
theorem qsum_filter (p : Nat → Bool) (f : Nat → Rat) : ∀ N, qsum (((List.range N).filter p).map f) = qs (fun u => if p u = true then f u else 0) N
  | 0 => by simp [qs, qsum]
  | N + 1 => by
    rw [qs_succ, List.range_succ, List.filter_append, List.map_append]
    by_cases h : p N = true
    · rw [if_pos h, ← qsum_filter p f N]
      simp only [List.filter_cons, List.filter_nil, h, if_true, List.map_cons, List.map_nil]
      exact qsum_snoc _ _
    · have h' : p N = false := by cases e : p N <;> simp_all
      rw [if_neg h, ← qsum_filter p f N]
      simp only [List.filter_cons, List.filter_nil, h', Bool.false_eq_true, if_false, List.map_nil, List.append_nil]
      grind
theorem zsum : ∀ N, qs (fun _ => 0) N = 0
  | 0 => qs_zero _
  | N + 1 => by rw [qs_succ, zsum N]; grind
/-- the mean behind j parts -/
def meanQ (W : Nat → Rat) (ac : Nat → Nat → Int) (A : Int) (N j : Nat) : Rat := qs (fun u => W u * fq (ac u j) A) N
theorem mean_zero {N m L : Nat} {A : Int} {bd ln : Nat → Int} {DB : Nat → List Nat} {ac : Nat → Nat → Int} (P : Parts N m L A bd ln DB ac) (W : Nat → Rat) : meanQ W ac A N 0 = 0 := by
  unfold meanQ
  rw [qs_congr (g := fun _ => 0) N (fun u _ => by rw [P.ac0 u, fq_zero P.ab.1]; grind)]
  exact zsum N
theorem mean_succ {N m L : Nat} {A : Int} {bd ln : Nat → Int} {DB : Nat → List Nat} {ac : Nat → Nat → Int} (P : Parts N m L A bd ln DB ac) (W : Nat → Rat) {j : Nat} (hj : j < L) (hf : DB j = (List.range N).filter (fun u => decide (u ∈ DB j))) :
    meanQ W ac A N (j + 1) = meanQ W ac A N j + qsum ((DB j).map W) * fq (ln j) A := by
  have e : qsum ((DB j).map W) = qs (fun u => if u ∈ DB j then W u else 0) N := by
    have h := qsum_filter (fun u => decide (u ∈ DB j)) W N
    rw [← hf] at h
    rw [h]
    exact qs_congr N (fun u _ => by simp)
  unfold meanQ
  rw [e, ← qs_lin]
  refine qs_congr N (fun u _ => ?_)
  have h0 := P.acb u j (by omega)
  have hl : 0 ≤ ln j := by have := P.hln j; have := (P.hbd j hj).2.1; omega
  rw [P.acs u j]
  by_cases h : u ∈ DB j
  · rw [if_pos h, if_pos h, ← fq_add P.ab.1 h0.1 hl]; grind
  · rw [if_neg h, if_neg h, Int.add_zero]; grind
theorem mean_end {N m L : Nat} {A : Int} {bd ln : Nat → Int} {DB : Nat → List Nat} {ac : Nat → Nat → Int} (_ : Parts N m L A bd ln DB ac) {V Q : Nat → Rat} (hQ : ∀ u, u < N → fq (ac u L) A = Q u) (hn : ∀ u, u < N → Q u ≠ 0) : meanQ (fun u => V u / Q u) ac A N L = qs V N := by
  unfold meanQ
  refine qs_congr N (fun u hu => ?_)
  rw [hQ u hu]
  exact Rat.div_mul_cancel (hn u hu)
theorem filt_drB (x : Nat → Int) (C : List Nat) (M A b : Int) (N : Nat) : drB x C M A b N = (List.range N).filter (fun u => decide (u ∈ drB x C M A b N)) := by
  conv => lhs; unfold drB
  apply List.filter_congr
  intro u hu
  have hu' : u < N := by simpa using hu
  have h := @drB_mem x C M A b N u
  by_cases hm : u ∈ drB x C M A b N
  · rw [decide_eq_true hm]
    have := (h.1 hm).2
    simpa using this
  · rw [decide_eq_false hm]
    have : ¬ (u ∈ C ∨ pbI A b (lays x C M u).2 < pbI A b ((lays x C M u).2 + x u * M)) := fun hh => hm (h.2 ⟨hu', hh⟩)
    simpa using this
theorem estL_map (V Q : Nat → Rat) (l : List Nat) : estL (l.map V) (l.map Q) = l.map (fun u => V u / Q u) := by
  unfold estL
  induction l with
  | nil => rfl
  | cons u l ih => simp only [List.map_cons, List.zipWith_cons_cons, ih]
theorem est_draw {V Q : Nat → Rat} {l : List Nat} (h0 : 1 ≤ l.length) (hg : ∀ u ∈ l, goodp (Q u) = true) : estE (l.map V) (l.map Q) = 0 ∧ estQ (l.map V) (l.map Q) = qsum (l.map (fun u => V u / Q u)) := by
  have h := est_good (qs := l.map V) (ps := l.map Q) (by simpa using h0) (by simp) (fun i hi => by
    have hil : i < l.length := by simpa using hi
    have := hg l[i] (List.getElem_mem hil)
    simpa [List.getD, hil] using this)
  rw [estL_map] at h
  exact h
theorem inc_good {N : Nat} {x : Nat → Int} {od : List Nat} {m K : Nat} (h : Ord N x od) (c : Cert N x od m K) (hx : ∀ i, i < N → 1 ≤ x i ∧ x i ≤ 1099511627776) (hm : 1 ≤ m) (hmN : m ≤ N) {u : Nat} (hu : u < N) : goodp (incQ x od K ((m : Int) - (K : Int)) u) = true := by
  have := (prob_facts h c hx hm hmN).1 u hu
  unfold goodp
  rw [decide_eq_true (by omega), decide_eq_true this.2]
  rfl
end Go.Proofs.Ytcnghhlchjcdhaa.Dr
/- Allocate's mathematics: least common multiples, largest remainders, and the reference's repeated choice of the greatest. -/
namespace Go.Proofs.Ytcnghhlchjcdhaa.Dr
open Go.RowKit

/-- the first greatest of f below N -/
def amx (f : Nat → Rat) : Nat → Nat
  | 0 => 0
  | i + 1 => if f (amx f i) < f i then i else amx f i
theorem amx_lt (f : Nat → Rat) : ∀ i, 0 < i → amx f i < i
  | 0, h => absurd h (Nat.lt_irrefl _)
  | i + 1, _ => by
    unfold amx
    split
    · omega
    · by_cases h : i = 0
      · subst h; show (0 : Nat) < 1; omega
      · have := amx_lt f i (by omega); omega
theorem amx_spec {f : Nat → Rat} {N b : Nat} (h : ∀ i, i < N → f i ≤ f b ∧ (i < b → f i < f b)) : ∀ i, b < i → i ≤ N → amx f i = b
  | 0, h0, _ => by omega
  | i + 1, h0, hN => by
    unfold amx
    by_cases e : i = b
    · subst e
      by_cases z : i = 0
      · subst z; simp [amx]
      · have hl := amx_lt f i (by omega)
        rw [if_pos ((h _ (by omega)).2 hl)]
    · have ih := amx_spec h i (by omega) (by omega)
      rw [ih, if_neg (Rat.not_lt.2 (h i (by omega)).1)]

theorem rlt_le {a b c : Rat} (h : a < b) (k : b ≤ c) : a < c := by grind
/-- the rests after k choices -/
def rstQ (r : Nat → Int) (P : Int) (od : List Nat) (k i : Nat) : Rat := if i ∈ od.take k then -1 else fq (r i) P
theorem fq_mono {a b A : Int} (hA : 1 ≤ A) (ha : 0 ≤ a) (hab : a ≤ b) : fq a A ≤ fq b A := Rat.le_trans (fq_le hA ha hab) (fq_ge hA (by omega))
theorem fq_mono_lt {a b A : Int} (hA : 1 ≤ A) (ha : 0 ≤ a) (hab : a < b) : fq a A < fq b A := rlt_le (fq_lt hA ha hab) (fq_ge hA (by omega))
theorem fq_nn {a A : Int} (hA : 1 ≤ A) (ha : 0 ≤ a) : 0 ≤ fq a A := by
  have h := fq_mono hA (Int.le_refl 0) ha
  rwa [fq_zero hA] at h
theorem rst_zero (r : Nat → Int) (P : Int) (od : List Nat) (i : Nat) : rstQ r P od 0 i = fq (r i) P := by simp [rstQ]
theorem rst_next {N : Nat} {r : Nat → Int} {od : List Nat} (h : Ord N r od) (P : Int) {k : Nat} (hk : k < N) (i : Nat) : rstQ r P od (k + 1) i = if i = od.getD k 0 then -1 else rstQ r P od k i := by
  unfold rstQ
  rw [take_getD od (by rw [h.len]; exact hk)]
  by_cases e : i = od.getD k 0
  · rw [if_pos e, if_pos (by rw [e]; simp)]
  · rw [if_neg e]
    by_cases m : i ∈ od.take k
    · rw [if_pos m, if_pos (List.mem_append_left _ m)]
    · rw [if_neg m, if_neg (fun q => by rcases List.mem_append.1 q with q | q
                                        · exact m q
                                        · exact e (List.mem_singleton.1 q))]
theorem rst_best {N : Nat} {r : Nat → Int} {od : List Nat} {P : Int} (h : Ord N r od) (hP : 1 ≤ P) (h0 : ∀ i, i < N → 0 ≤ r i) {k : Nat} (hk : k < N) : amx (rstQ r P od k) N = od.getD k 0 := by
  have hb := h.get hk
  have hn := h.next hk
  refine amx_spec (N := N) (fun i hi => ?_) N hb (Nat.le_refl _)
  have eb : rstQ r P od k (od.getD k 0) = fq (r (od.getD k 0)) P := by unfold rstQ; rw [if_neg hn]
  rw [eb]
  have nn := fq_nn hP (h0 _ hb)
  by_cases m : i ∈ od.take k
  · have e : rstQ r P od k i = -1 := by unfold rstQ; rw [if_pos m]
    rw [e]
    have l : (-1 : Rat) < fq (r (od.getD k 0)) P := rlt_le (by decide) nn
    exact ⟨Rat.le_of_lt l, fun _ => l⟩
  · have e : rstQ r P od k i = fq (r i) P := by unfold rstQ; rw [if_neg m]
    rw [e]
    have hh := h.best hk hi m
    exact ⟨fq_mono hP (h0 i hi) hh.1, fun q => fq_mono_lt hP (h0 i hi) (hh.2 q)⟩

def sN (f : Nat → Nat) : Nat → Nat
  | 0 => 0
  | n + 1 => sN f n + f n
theorem sN_div (t P : Nat) (p : Nat → Nat) : ∀ N, P * sN (fun i => t * p i / P) N + sN (fun i => t * p i % P) N = t * sN p N
  | 0 => by simp [sN]
  | N + 1 => by
    have ih := sN_div t P p N
    have hd := Nat.div_add_mod (t * p N) P
    unfold sN
    rw [Nat.mul_add, Nat.mul_add]
    omega
theorem sN_lt {f : Nat → Nat} {P : Nat} : ∀ N, (∀ i, i < N → f i < P) → sN f N + N ≤ P * N
  | 0, _ => by simp [sN]
  | N + 1, h => by
    have ih := sN_lt N (fun i hi => h i (by omega))
    have := h N (by omega)
    unfold sN
    rw [Nat.mul_succ]
    omega
/-- what is left is not negative, and less than the units -/
theorem left_lt {N t P : Nat} {p : Nat → Nat} (hN : 0 < N) (hP : 0 < P) (e : sN p N = P) : sN (fun i => t * p i / P) N ≤ t ∧ t - sN (fun i => t * p i / P) N < N := by
  have h1 := sN_div t P p N
  have h2 := sN_lt (f := fun i => t * p i % P) N (fun i _ => Nat.mod_lt _ hP)
  rw [e] at h1
  obtain ⟨S, hS⟩ : ∃ S, S = sN (fun i => t * p i / P) N := ⟨_, rfl⟩
  rw [← hS] at h1 ⊢
  have hSt : S ≤ t := Nat.le_of_mul_le_mul_left (show P * S ≤ P * t by rw [Nat.mul_comm P t]; omega) hP
  refine ⟨hSt, ?_⟩
  obtain ⟨l, rfl⟩ : ∃ l, t = S + l := ⟨t - S, by omega⟩
  rw [Nat.add_sub_cancel_left]
  rw [Nat.add_mul, Nat.mul_comm S P] at h1
  have h3 : l * P < N * P := by
    rw [Nat.mul_comm N P]
    omega
  exact Nat.lt_of_mul_lt_mul_right h3

/-- the least common multiple of the first denominators -/
def Lm (q : Nat → Rat) : Nat → Nat
  | 0 => 1
  | k + 1 => Lm q k * (q k * (Lm q k : Rat)).den
theorem Lm_pos (q : Nat → Rat) : ∀ k, 0 < Lm q k
  | 0 => Nat.one_pos
  | k + 1 => Nat.mul_pos (Lm_pos q k) (Rat.den_pos _)
theorem rat_nd (x : Rat) : (x.num : Rat) / (x.den : Rat) = x := by rw [← Rat.mkRat_eq_div, Rat.mkRat_self]
theorem rat_den_ne (x : Rat) : (x.den : Rat) ≠ 0 := by
  intro h
  exact x.den_nz (by exact_mod_cast h)
theorem mul_den (x : Rat) : x * (x.den : Rat) = (x.num : Rat) := by
  conv => lhs; lhs; rw [← rat_nd x]
  exact Rat.div_mul_cancel (rat_den_ne x)
theorem den_one_mul {x : Rat} (h : x.den = 1) (n : Nat) : (x * (n : Rat)).den = 1 := by
  have e : x = (x.num : Rat) := by
    have := mul_den x
    rw [h] at this
    rwa [show ((1 : Nat) : Rat) = 1 from rfl, Rat.mul_one] at this
  rw [e, ← Rat.intCast_natCast, ← Rat.intCast_mul]
  exact Rat.den_intCast _
theorem Lm_den (q : Nat → Rat) : ∀ k i, i < k → (q i * (Lm q k : Rat)).den = 1
  | 0, _, h => absurd h (Nat.not_lt_zero _)
  | k + 1, i, h => by
    have e : q i * (Lm q (k + 1) : Rat) = (q i * (Lm q k : Rat)) * ((q k * (Lm q k : Rat)).den : Rat) := by
      show q i * ((Lm q k * (q k * (Lm q k : Rat)).den : Nat) : Rat) = _
      rw [Rat.natCast_mul, Rat.mul_assoc]
    rw [e]
    by_cases hi : i = k
    · rw [hi, mul_den]
      exact Rat.den_intCast _
    · exact den_one_mul (Lm_den q k i (by omega)) _
theorem den_mul_le (x : Rat) (n : Nat) : (x * (n : Rat)).den ≤ x.den := by
  rw [Rat.den_mul, Rat.den_natCast, Nat.mul_one]
  exact Nat.div_le_self _ _
theorem Lm_bd {q : Nat → Rat} {B : Nat} : ∀ k, (∀ i, i < k → (q i).den ≤ B) → Lm q k ≤ B ^ k
  | 0, _ => Nat.le_refl _
  | k + 1, h => by
    rw [Nat.pow_succ]
    exact Nat.mul_le_mul (Lm_bd k (fun i hi => h i (by omega))) (Nat.le_trans (den_mul_le _ _) (h k (by omega)))
/-- the natural numbers in the proportions of the sizes -/
def pA (q : Nat → Rat) (L i : Nat) : Nat := rn (q i * (L : Rat))
theorem pA_eq {q : Nat → Rat} {L i : Nat} (h0 : 0 ≤ q i) (hd : (q i * (L : Rat)).den = 1) : ((pA q L i : Nat) : Rat) = q i * (L : Rat) := by
  have h1 : 0 ≤ q i * (L : Rat) := Rat.mul_nonneg h0 (by exact_mod_cast Nat.zero_le L)
  have e := mul_den (q i * (L : Rat))
  rw [hd, show ((1 : Nat) : Rat) = 1 from rfl, Rat.mul_one] at e
  have hn : 0 ≤ (q i * (L : Rat)).num := Rat.num_nonneg.2 h1
  unfold pA rn
  rw [← Rat.intCast_natCast, Int.natAbs_of_nonneg hn]
  exact e.symm
theorem nat_ne {n : Nat} (h : 0 < n) : (n : Rat) ≠ 0 := by
  intro e
  have : n = 0 := by exact_mod_cast e
  omega
theorem sN_rat {q : Nat → Rat} {L : Nat} : ∀ N, (∀ i, i < N → ((pA q L i : Nat) : Rat) = q i * (L : Rat)) → ((sN (pA q L) N : Nat) : Rat) = qs q N * (L : Rat)
  | 0, _ => by rw [qs_zero]; simp [sN]
  | N + 1, h => by
    unfold sN
    rw [Rat.natCast_add, sN_rat N (fun i hi => h i (by omega)), h N (by omega), qs_succ]
    grind
theorem share_eq {x S : Rat} {t p P L : Nat} (hL : 0 < L) (hP : 0 < P) (hp : ((p : Nat) : Rat) = x * (L : Rat)) (hS : ((P : Nat) : Rat) = S * (L : Rat)) : x * (t : Rat) / S = fq ((t * p : Nat) : Int) (P : Int) := by
  have hL' := nat_ne hL
  have hP' := nat_ne hP
  have hS' : S ≠ 0 := by
    rintro rfl
    rw [Rat.zero_mul] at hS
    exact hP' hS
  rw [fq_div (by omega) (by omega), Rat.intCast_natCast, Rat.intCast_natCast]
  have e : x * (t : Rat) / S * (P : Rat) = ((t * p : Nat) : Rat) := by
    rw [hS, Rat.natCast_mul, hp, ← Rat.mul_assoc, Rat.div_mul_cancel hS']
    grind
  rw [← e, Rat.mul_div_cancel hP']
theorem qs_nn {q : Nat → Rat} : ∀ N, (∀ i, i < N → 0 ≤ q i) → 0 ≤ qs q N
  | 0, _ => by rw [qs_zero]; exact Rat.le_refl
  | N + 1, h => by
    rw [qs_succ]
    have h1 := qs_nn N (fun i hi => h i (by omega))
    have h2 := h N (by omega)
    grind
/-- no number is negative: the sum is 0 where each is -/
theorem qs_eq_zero {q : Nat → Rat} : ∀ N, (∀ i, i < N → 0 ≤ q i) → (qs q N = 0 ↔ ∀ i, i < N → q i = 0)
  | 0, _ => by rw [qs_zero]; exact ⟨fun _ i hi => absurd hi (Nat.not_lt_zero _), fun _ => rfl⟩
  | N + 1, h => by
    have ih := qs_eq_zero N (fun i hi => h i (by omega))
    have h1 := qs_nn N (fun i hi => h i (by omega))
    have h2 := h N (by omega)
    rw [qs_succ]
    constructor
    · intro e
      have e1 : qs q N = 0 := by grind
      have e2 : q N = 0 := by grind
      intro i hi
      by_cases c : i = N
      · rw [c]; exact e2
      · exact ih.1 e1 i (by omega)
    · intro e
      rw [ih.2 (fun i hi => e i (by omega)), e N (by omega)]
      grind
end Go.Proofs.Ytcnghhlchjcdhaa.Dr
/- areShares: any numbers. -/
namespace Go.Proofs.Ytcnghhlchjcdhaa.Dr
open Go.RowKit

/-- the numbers of a list are f 0, f 1 .. -/
def RL (w : World) (rs : List RV) (f : Nat → Rat) (N k : Nat) : Prop := rs.length = N ∧ ∀ i, i < N → RQ w (rs.getD i RV.nil).s (rs.getD i RV.nil).ao (rs.getD i RV.nil).n (rs.getD i RV.nil).ca (rs.getD i RV.nil).bo (rs.getD i RV.nil).m (rs.getD i RV.nil).cb (f i) k
theorem RL.below {w w' : World} {rs : List RV} {f : Nat → Rat} {N k : Nat} (h : RL w rs f N k) (b : Below w.heap.size w w') : RL w' rs f N k := ⟨h.1, fun i hi => (h.2 i hi).below b⟩
def allP (f : Nat → Rat) : Nat → Bool
  | 0 => true
  | i + 1 => allP f i && decide (0 ≤ sgn (f i))
def anyP (f : Nat → Rat) : Nat → Bool
  | 0 => false
  | i + 1 => anyP f i || decide (0 < sgn (f i))
theorem allP_iff (f : Nat → Rat) : ∀ N, allP f N = true ↔ ∀ i, i < N → 0 ≤ sgn (f i)
  | 0 => ⟨fun _ i hi => absurd hi (Nat.not_lt_zero _), fun _ => rfl⟩
  | N + 1 => by
    have ih := allP_iff f N
    unfold allP
    rw [Bool.and_eq_true, ih, decide_eq_true_iff]
    constructor
    · rintro ⟨h1, h2⟩ i hi
      by_cases e : i = N
      · rw [e]; exact h2
      · exact h1 i (by omega)
    · intro h
      exact ⟨fun i hi => h i (by omega), h N (by omega)⟩
theorem allP_no {f : Nat → Rat} {N i : Nat} (hi : i < N) (h : sgn (f i) < 0) : allP f N = false := by
  cases e : allP f N with
  | false => rfl
  | true =>
    have := (allP_iff f N).1 e i hi
    omega
theorem sgn_cases (q : Rat) : sgn q = -1 ∨ sgn q = 0 ∨ sgn q = 1 := by
  unfold sgn
  split
  · exact .inl rfl
  · split
    · exact .inr (.inl rfl)
    · exact .inr (.inr rfl)

set_option maxHeartbeats 8000000 in
set_option maxRecDepth 100000 in
theorem areShares_v (ao : Option Addr) (cap N k : Nat) (rs : List RV) (f : Nat → Rat) (w : World) (hN : N ≤ 200) (h : RdR w ao cap rs) (hf : RL w rs f N k) :
    Calls Try.prog 24 #[.slice ao N cap] w fun e w' => e = .returned (.bool (allP f N && anyP f N)) ∧ Below w.heap.size w w' := by
  have HR := Lib.hid h
  have HF := Lib.hid hf
  have hc1 : N ≤ cap := by have := h.1; rw [hf.1] at this; exact this
  have hc2 := h.2.1
  have hE : (N : Int) ≤ 200 := by omega
  have hE2 : decide ((200 : Int) < (N : Int)) = false := decide_eq_false (by omega)
  clear h hf
  go_enter Try.func24, Try.ntmps24
  go_wp2_with fail
  go_loopw [11, 3] (fun s11 s3 wr => ∃ i : Nat, i ≤ N ∧ s11 = .int .i64 (i : Int) ∧ s3 = .bool (anyP f i) ∧ Hid (allP f i = true) ∧ Hid (Below w.heap.size w wr)) (fun s11 _ _ => N - (intOf s11).toNat)
  case atStart => exact ⟨0, by omega, rfl, rfl, rfl, Below.refl _ _⟩
  case round =>
    obtain ⟨i, hiN, rfl, rfl, hall, hbl⟩ := hrel
    by_cases hlt : i < N
    · have hlt2 : (i : Int) < (N : Int) := by omega
      obtain ⟨b, o, rfl, hat⟩ := (HR.out.below hbl.out).at (by rw [HF.out.1]; omega)
      have hri := (HF.out.below hbl.out).2 i hlt
      obtain ⟨c0, c1, c2⟩ := hat i (by rw [HF.out.1]; exact hlt)
      obtain ⟨r, hr⟩ : ∃ r, r = rs.getD i RV.nil := ⟨_, rfl⟩
      rw [← hr] at hri c0 c1 c2
      have hic : i < cap := by omega
      obtain ⟨W5, hW5⟩ : ∃ W, W = wr.alloc (.cells #[.bool r.s, .slice r.ao r.n r.ca, .slice r.bo r.m r.cb] 33) := ⟨_, rfl⟩
      obtain ⟨g5, hg5⟩ : ∃ g, g = wr.heap.size := ⟨_, rfl⟩
      have b5 : Below wr.heap.size wr W5 := by rw [hW5]; exact below_new _ _
      have x5 : W5.heap[g5]? = some (.cells #[.bool r.s, .slice r.ao r.n r.ca, .slice r.bo r.m r.cb] 33 (0, 0)) := by rw [hW5, hg5]; exact heap_alloc_new _ _
      obtain ⟨S, hS⟩ : ∃ S, S = sgn (f i) := ⟨_, rfl⟩
      have SG : Hid (∀ W', Below W5.heap.size W5 W' → Calls Try.prog 43 #[.agg #[.bool r.s, .slice r.ao r.n r.ca, .slice r.bo r.m r.cb]] W' fun e w' => e = .returned (.int .i64 S) ∧ Below W'.heap.size W' w') := fun W' hb => by
        rw [hS]
        exact Sign_q r.s r.ao r.bo r.n r.ca r.m r.cb k (f i) W' ((hri.below b5).below hb)
      have HB5 : Hid (Below w.heap.size w W5) := hbl.out.trans (b5.mono hbl.out.size)
      have HX5 := Lib.hid x5
      have HS := Lib.hid hS
      have hSc := sgn_cases (f i)
      rw [← hS] at hSc
      obtain ⟨p, hp⟩ : ∃ p, p = anyP f i := ⟨_, rfl⟩
      have HP := Lib.hid hp
      rw [← hp]
      clear hat hri b5 x5 hbl hr hS hp
      go_upto_region 7 with fail
      rw [← hW5]
      try rw [← hg5]
      clear hW5 hg5 c0 c1 c2
      obtain ⟨d0, d1, d2, _, _, _⟩ := at_block HX5.out
      rcases hSc with rfl | hSc
      · go_wp2_with fail
        refine (SG.out W5 (Below.refl _ _)).mono ?_; rintro e w6 ⟨rfl, b6⟩
        have HB6 : Hid (Below w.heap.size w w6) := HB5.out.trans (b6.mono HB5.out.size)
        clear d0 d1 d2 b6 SG
        go_wp2_with fail
        go_ret
        exact ⟨by rw [allP_no hlt (by rw [← HS.out]; decide)]; rfl, HB6.out⟩
      · have hall1 : Hid (allP f (i + 1) = true) := by
          unfold Hid allP
          rw [hall.out, ← HS.out]
          rcases hSc with rfl | rfl <;> rfl
        have hany : Hid (anyP f (i + 1) = (p || decide (0 < S))) := by
          unfold Hid
          rw [HP.out, HS.out]
          rfl
        rcases hSc with rfl | rfl
        · go_wp2_with fail
          refine (SG.out W5 (Below.refl _ _)).mono ?_; rintro e w6 ⟨rfl, b6⟩
          have SG6 := Lib.hid (SG.out w6 b6)
          have HB6 : Hid (Below w.heap.size w w6) := HB5.out.trans (b6.mono HB5.out.size)
          have HX6 := Lib.hid (carry HX5.out b6)
          clear d0 d1 d2 b6 SG
          obtain ⟨d0, d1, d2, _, _, _⟩ := at_block HX6.out
          cases p with
          | false =>
            go_wp2_with fail
            refine SG6.out.mono ?_; rintro e w7 ⟨rfl, b7⟩
            have HB7 : Hid (Below w.heap.size w w7) := HB6.out.trans (b7.mono HB6.out.size)
            clear b7
            go_wp2_with fail
            go_roundw
            case rel => exact ⟨i + 1, by omega, by go_num, by rw [hany.out]; rfl, hall1, HB7⟩
            case measure => simp [intOf]; omega
          | true =>
            go_wp2_with fail
            go_roundw
            case rel => exact ⟨i + 1, by omega, by go_num, by rw [hany.out]; rfl, hall1, HB6⟩
            case measure => simp [intOf]; omega
        · go_wp2_with fail
          refine (SG.out W5 (Below.refl _ _)).mono ?_; rintro e w6 ⟨rfl, b6⟩
          have SG6 := Lib.hid (SG.out w6 b6)
          have HB6 : Hid (Below w.heap.size w w6) := HB5.out.trans (b6.mono HB5.out.size)
          have HX6 := Lib.hid (carry HX5.out b6)
          clear d0 d1 d2 b6 SG
          obtain ⟨d0, d1, d2, _, _, _⟩ := at_block HX6.out
          cases p with
          | false =>
            go_wp2_with fail
            refine SG6.out.mono ?_; rintro e w7 ⟨rfl, b7⟩
            have HB7 : Hid (Below w.heap.size w w7) := HB6.out.trans (b7.mono HB6.out.size)
            clear b7
            go_wp2_with fail
            go_roundw
            case rel => exact ⟨i + 1, by omega, by go_num, by rw [hany.out]; rfl, hall1, HB7⟩
            case measure => simp [intOf]; omega
          | true =>
            go_wp2_with fail
            go_roundw
            case rel => exact ⟨i + 1, by omega, by go_num, by rw [hany.out]; rfl, hall1, HB6⟩
            case measure => simp [intOf]; omega
    · obtain rfl : i = N := by omega
      have hlt2 : ¬ (i : Int) < (i : Int) := by omega
      obtain ⟨p, hp⟩ : ∃ p, p = anyP f i := ⟨_, rfl⟩
      have HP := Lib.hid hp
      rw [← hp]
      clear hp
      go_wp2_with fail
      go_ret
      exact ⟨by rw [hall.out, HP.out]; rfl, hbl.out⟩
end Go.Proofs.Ytcnghhlchjcdhaa.Dr
/- commonMultiple: any numbers. -/
namespace Go.Proofs.Ytcnghhlchjcdhaa.Dr
open Go.RowKit C6

theorem rn_nat (n : Nat) : rn ((n : Nat) : Rat) = n := by
  unfold rn
  rw [Rat.num_natCast]
  exact Int.natAbs_natCast n
theorem fr_boxT {B g : Nat} {w w' : World} {ao : Option Addr} {ca : Nat} {xs : List Nat} {u v x : Value} (hg : w.heap[g]? = some (.cells #[u, v, x] 33 (0, 0))) (h : Fr B w ao ca xs) (k : w.grownBy w' (some g)) : Fr B w' ao ca xs := by
  obtain ⟨h1, h2, h3, h4⟩ := h
  refine ⟨h1, h2, h3, ?_⟩
  rcases h4 with h4 | ⟨b, e, hb, hw⟩
  · exact .inl h4
  · refine .inr ⟨b, e, hb, hw.grown k ?_⟩
    intro q
    obtain rfl : b = g := Option.some.inj q
    obtain ⟨cur', h5, _⟩ := hw
    rw [h5] at hg
    cases hg
theorem cq_boxT {B g : Nat} {w w' : World} {u v x : Value} (hg : w.heap[g]? = some (.cells #[u, v, x] 33 (0, 0))) {s : Bool} {ao : Option Addr} {n ca : Nat} {bo : Option Addr} {m cb : Nat} {q : Rat} {k : Nat} (h : CQ B w s ao n ca bo m cb q k) (b : w.grownBy w' (some g)) : CQ B w' s ao n ca bo m cb q k := by
  obtain ⟨h1, h2, h3, h4, h5, h6⟩ := h
  exact ⟨h1, h2, h3, fr_boxT hg h4 b, fr_boxT hg h5 b, h6⟩
/-- a box that holds a number; its limbs lie from block B on -/
def TotZ (B : Nat) (w : World) (g : Nat) (q : Rat) (k : Nat) : Prop :=
  ∃ s a n c o m d, w.heap[g]? = some (.cells #[.bool s, .slice a n c, .slice o m d] 33 (0, 0)) ∧ CQ B w s a n c o m d q k
theorem TotZ.below {B : Nat} {w w' : World} {g : Nat} {q : Rat} {k : Nat} (h : TotZ B w g q k) (b : Below w.heap.size w w') : TotZ B w' g q k := by
  obtain ⟨s, a, n, c, o, m, d, h1, h2⟩ := h
  exact ⟨s, a, n, c, o, m, d, carry h1 b, h2.below b⟩
theorem TotZ.lt {B : Nat} {w : World} {g : Nat} {q : Rat} {k : Nat} (h : TotZ B w g q k) : g < w.heap.size := by
  obtain ⟨s, a, n, c, o, m, d, h1, h2⟩ := h
  exact (Array.getElem?_eq_some_iff.1 h1).1
theorem TotZ.put {B : Nat} {w : World} {g : Nat} {u v x : Value} {s : Bool} {a : Option Addr} {n c : Nat} {o : Option Addr} {m d : Nat} {q : Rat} {k : Nat} (h : w.heap[g]? = some (.cells #[u, v, x] 33 (0, 0))) (hq : CQ B w s a n c o m d q k) :
    TotZ B (((w.setCell ⟨g, 0, none⟩ (.bool s)).setCell ⟨g, 1, none⟩ (.slice a n c)).setCell ⟨g, 2, none⟩ (.slice o m d)) g q k :=
  ⟨s, a, n, c, o, m, d, set3_at h _ _ _, cq_boxT h hq (gb_trans (gb_trans (gbs _ _ _ _) (gbs _ _ _ _)) (gbs _ _ _ _))⟩
theorem nat_rq {w : World} {ao : Option Addr} {n ca N k : Nat} (h : Num w ao n ca N) (hs : Sm N k) (h1 : Sm 1 k) : RQ w false ao n ca none 0 0 ((N : Nat) : Rat) k := by
  refine ⟨N, 0, h, ⟨[], rfl, Rd.nil w, rfl, by simp⟩, hs, Sm.of_le h1 (by omega), ?_, h1⟩
  show rq false N 1 = _
  have e := fq_div (a := (N : Int)) (b := 1) (by omega) (by omega)
  have e2 : fq (N : Int) 1 = rq false N 1 := by
    unfold fq
    rw [decide_eq_false (show ¬ (N : Int) < 0 by omega), Int.natAbs_natCast]
    rfl
  rw [← e2, e, Rat.intCast_natCast]
  have : (((1 : Int) : Rat)) = 1 := rfl
  rw [this, Rat.div_def]
  grind

set_option maxHeartbeats 16000000 in
set_option maxRecDepth 100000 in
theorem commonMultiple_v (ao : Option Addr) (cap N k K : Nat) (rs : List RV) (f : Nat → Rat) (w : World) (h : RdR w ao cap rs) (hf : RL w rs f N k) (hkK : k ≤ K) (hK : K ≤ 1000) (hL : ∀ i, i ≤ N → Sm (Lm f i) K) :
    Calls Try.prog 44 #[.slice ao N cap] w (MakesQ ((Lm f N : Nat) : Rat) K w) := by
  have HR := Lib.hid h
  have HF := Lib.hid hf
  have HL := Lib.hid hL
  have hc1 : N ≤ cap := by have := h.1; rw [hf.1] at this; exact this
  have hc2 := h.2.1
  obtain ⟨W1, hW1, B0, X0, hs1⟩ := boxR w
  have F1 : Hid (∀ w', Calls Try.prog 65 #[.int .i64 1] w' (MakesQ 1 2 w')) := fun w' => FromInt_q 1 (by omega) (by omega) w'
  have HB0 := Lib.hid B0
  have HX0 := Lib.hid X0
  have HS := Lib.hid hs1
  have H1K : Hid (Sm 1 K) := hL 0 (by omega)
  clear h hf hL B0 X0 hs1
  go_enter Try.func44, Try.ntmps44
  go_wp2_with fail
  rw [← hW1]
  clear hW1
  refine (F1.out _).mono ?_; rintro e W2 ⟨s2, a2, n2, c2, o2, m2, d2, rfl, cq2, b2⟩
  obtain ⟨W3, hW3⟩ : ∃ W, W = W2.alloc (.cells #[.bool s2, .slice a2 n2 c2, .slice o2 m2 d2] 33) := ⟨_, rfl⟩
  obtain ⟨g3, hg3⟩ : ∃ g, g = W2.heap.size := ⟨_, rfl⟩
  obtain ⟨Bs, hBs⟩ : ∃ B, B = W1.heap.size := ⟨_, rfl⟩
  have b3 : Below W2.heap.size W2 W3 := by rw [hW3]; exact below_new _ _
  have x3 : W3.heap[g3]? = some (.cells #[.bool s2, .slice a2 n2 c2, .slice o2 m2 d2] 33 (0, 0)) := by rw [hW3, hg3]; exact heap_alloc_new _ _
  have HX2 : Hid (Box3 W2 w.heap.size) := HX0.out.below b2
  have HT3 : Hid (TotZ Bs W3 g3 ((Lm f 0 : Nat) : Rat) K) := ⟨s2, a2, n2, c2, o2, m2, d2, x3, by
    rw [hBs]
    exact (cq2.below b3).resize (by show Sm (rn ((1 : Nat) : Rat)) K; rw [rn_nat]; exact H1K.out) (by show Sm ((1 : Nat) : Rat).den K; rw [Rat.den_natCast]; exact H1K.out)⟩
  have HB2 : Hid (Below w.heap.size w W2) := HB0.out.trans (b2.mono HB0.out.size)
  have HB3 : Hid (Below g3 W2 W3) := by rw [hg3]; exact b3
  have HG : Hid (g3 = W2.heap.size) := hg3
  have HBS : Hid (Bs ≤ g3 ∧ w.heap.size < Bs) := ⟨by rw [hBs, hg3]; exact b2.size, by rw [hBs]; have := HS.out; omega⟩
  have hgl : Hid (w.heap.size ≤ g3) := by unfold Hid; have := HBS.out; omega
  have HBE : Hid (Bs = W1.heap.size) := hBs
  clear b2 b3 cq2 F1 hBs x3
  go_upto_region 2 with fail
  rw [← hW3]
  try rw [← hg3]
  clear hW3 hg3
  go_wp2_with fail
  go_loopw [10] (fun s10 wr => ∃ i : Nat, i ≤ N ∧ s10 = .int .i64 (i : Int) ∧ Hid (TotZ Bs wr g3 ((Lm f i : Nat) : Rat) K) ∧ Hid (Below g3 W2 wr)) (fun s10 _ => N - (intOf s10).toNat)
  case atStart => exact ⟨0, by omega, rfl, HT3, HB3⟩
  case round =>
    obtain ⟨i, hiN, rfl, htot, hbl⟩ := hrel
    have HBW : Hid (Below w.heap.size w wr) := HB2.out.trans (hbl.out.mono hgl.out)
    have hgw : Hid (g3 < wr.heap.size) := htot.out.lt
    by_cases hlt : i < N
    · have hlt2 : (i : Int) < (N : Int) := by omega
      obtain ⟨b, o, rfl, hat⟩ := (HR.out.below HBW.out).at (by rw [HF.out.1]; omega)
      have hri := (HF.out.below HBW.out).2 i hlt
      obtain ⟨c0, c1, c2'⟩ := hat i (by rw [HF.out.1]; exact hlt)
      obtain ⟨r, hr⟩ : ∃ r, r = rs.getD i RV.nil := ⟨_, rfl⟩
      rw [← hr] at hri c0 c1 c2'
      have hic : i < cap := by omega
      obtain ⟨W5, hW5⟩ : ∃ W, W = wr.alloc (.cells #[.bool r.s, .slice r.ao r.n r.ca, .slice r.bo r.m r.cb] 33) := ⟨_, rfl⟩
      obtain ⟨g5, hg5⟩ : ∃ g, g = wr.heap.size := ⟨_, rfl⟩
      have b5 : Below wr.heap.size wr W5 := by rw [hW5]; exact below_new _ _
      have x5 : Hid (W5.heap[g5]? = some (.cells #[.bool r.s, .slice r.ao r.n r.ca, .slice r.bo r.m r.cb] 33 (0, 0))) := by rw [hW5, hg5]; exact heap_alloc_new _ _
      obtain ⟨s4, a4, n4, c4, o4, m4, d4, y4, cq4⟩ := htot.out.below b5
      have ML := Lib.hid (Mul_q r.s s4 r.ao r.bo a4 o4 r.n r.ca r.m r.cb n4 c4 m4 d4 K (f i) _ W5 ((hri.below b5).up hkK (by omega)) cq4.rq (by omega))
      have HY4 := Lib.hid y4
      have HC4 := Lib.hid cq4
      have HB5 : Hid (Below g3 W2 W5) := hbl.out.trans (b5.mono (Nat.le_of_lt hgw.out))
      have hgw5 : Hid (g3 < W5.heap.size) := Nat.lt_of_lt_of_le hgw.out b5.size
      clear hat hri hr b5 hbl htot HBW y4 cq4
      go_upto_region 5 with fail
      rw [← hW5]
      try rw [← hg5]
      clear hW5 hg5 c0 c1 c2'
      obtain ⟨e0, e1, e2, _, _, _⟩ := at_block x5.out
      obtain ⟨f0, f1, f2, _, _, _⟩ := at_block HY4.out
      go_wp2_with fail
      refine ML.out.mono ?_; rintro e w6 ⟨s6, a6, n6, c6, o6, m6, d6, rfl, cq6, b6⟩
      obtain ⟨D, hD⟩ : ∃ D, D = (f i * ((Lm f i : Nat) : Rat)).den := ⟨_, rfl⟩
      have HD1 : Hid (Lm f (i + 1) = Lm f i * D) := by rw [hD]; rfl
      have hD0 : 0 < D := by rw [hD]; exact Rat.den_pos _
      have hm6 : m6 = (dd D).length := by rw [hD]; exact cq6.2.2.1
      have hfr : Fr W5.heap.size w6 o6 d6 (dd D) := by rw [hD]; exact cq6.2.2.2.2.1
      have hsd : Sm D (K + K + 1) := by rw [hD]; exact cq6.2.2.2.2.2.2
      have HB6 : Hid (Below g3 W2 w6) := HB5.out.trans (b6.mono (Nat.le_of_lt hgw5.out))
      have HY6 := Lib.hid (carry HY4.out b6)
      have HC6 := Lib.hid (HC4.out.below b6)
      have hgw6 : Hid (g3 < w6.heap.size) := Nat.lt_of_lt_of_le hgw5.out b6.size
      have hfl : (Instr.field 33 (.agg #[.bool s6, .slice a6 n6 c6, .slice o6 m6 d6]) 2).run Try.prog w6 = .ok (.slice o6 m6 d6) w6 := by kernel_rfl
      clear cq6 b6 e0 e1 e2 f0 f1 f2 ML HY4 HC4 HB5
      by_cases hz : D = 1
      · have hm0 : m6 = 0 := by rw [hm6, hz]; rfl
        subst hm0
        have HT : Hid (TotZ Bs w6 g3 ((Lm f (i + 1) : Nat) : Rat) K) := by
          unfold Hid
          rw [HD1.out, hz, Nat.mul_one]
          exact ⟨s4, a4, n4, c4, o4, m4, d4, HY6.out, HC6.out⟩
        clear hD hm6 hfr hsd hz hD0
        go_wp2_with fail
        go_roundw
        case rel => exact ⟨i + 1, by omega, by go_num, HT, HB6⟩
        case measure => simp [intOf]; omega
      · have hdd : dd D = dig D := dd_of hz
        rw [hdd] at hm6 hfr
        have hnm : Num w6 o6 m6 d6 D := by rw [hm6]; exact Num.of_fr hfr hsd
        have hm0 : (0 : Int) < (m6 : Int) := by
          rcases Nat.eq_zero_or_pos m6 with e | e
          · exfalso
            have hd0 : dig D = [] := List.eq_nil_of_length_eq_zero (by rw [← hm6]; exact e)
            have := val_dig D
            rw [hd0] at this
            have h0 : val [] = 0 := rfl
            omega
          · omega
        have hrq := nat_rq hnm hsd (Sm.of_le hsd (by omega))
        have ML2 := Lib.hid (Mul_q s4 false a4 o4 o6 none n4 c4 m4 d4 m6 d6 0 0 (K + K + 1) _ _ w6 (HC6.out.rq.up (by omega) (by omega)) hrq (by omega))
        have HDR : Hid (((Lm f i : Nat) : Rat) * ((D : Nat) : Rat) = ((Lm f (i + 1) : Nat) : Rat)) := by
          unfold Hid
          rw [HD1.out, Rat.natCast_mul]
        have HLi : Hid (Sm (Lm f (i + 1)) K) := HL.out (i + 1) (by omega)
        obtain ⟨f0, f1, f2, z0, z1, z2⟩ := at_block HY6.out
        clear hD hm6 hfr hsd hz hD0 hdd hnm hrq
        go_wp2_with fail
        refine ML2.out.mono ?_; rintro e w7 ⟨s7, a7, n7, c7, o7, m7, d7, rfl, cq7, b7⟩
        rw [HDR.out] at cq7
        have cq8 := cq7.resize (by rw [rn_nat]; exact HLi.out) (by rw [Rat.den_natCast]; exact H1K.out)
        have y7 := carry HY6.out b7
        have HT : Hid (TotZ Bs (((w7.setCell ⟨g3, 0, none⟩ (.bool s7)).setCell ⟨g3, 1, none⟩ (.slice a7 n7 c7)).setCell ⟨g3, 2, none⟩ (.slice o7 m7 d7)) g3 ((Lm f (i + 1) : Nat) : Rat) K) := TotZ.put y7 (cq8.mono (by have := HBS.out; have := hgw6.out; omega))
        have HB7 : Hid (Below g3 W2 (((w7.setCell ⟨g3, 0, none⟩ (.bool s7)).setCell ⟨g3, 1, none⟩ (.slice a7 n7 c7)).setCell ⟨g3, 2, none⟩ (.slice o7 m7 d7))) := below3 (HB6.out.trans (b7.mono (Nat.le_of_lt hgw6.out))) (Nat.le_refl _) _ _ _
        clear f0 f1 f2 z0 z1 z2
        obtain ⟨u0, u1, u2, z0, z1, z2⟩ := at_block y7
        clear cq7 cq8 b7 y7 ML2 HY6 HC6
        go_wp2_with fail
        go_roundw
        case rel => exact ⟨i + 1, by omega, by go_num, HT, HB7⟩
        case measure => simp [intOf]; omega
    · obtain rfl : i = N := by omega
      have hlt2 : ¬ (i : Int) < (i : Int) := by omega
      obtain ⟨s4, a4, n4, c4, o4, m4, d4, y4, cq4⟩ := htot.out
      obtain ⟨v0, v1, v2, _, _, _⟩ := at_block y4
      have X9 := HX2.out.below (by rw [← HG.out]; exact hbl.out)
      obtain ⟨u0, u1, u2, q0, q1, q2, z0, z1, z2⟩ := X9.facts
      have HQ := Lib.hid cq4
      have hB := HBW
      clear y4 cq4 hbl htot X9 HBW
      go_wp2_with fail
      refine bodyPost_ret (v := .agg #[.bool s4, .slice a4 n4 c4, .slice o4 m4 d4]) (by simp [results, Try.results44, go_sem, q0, q1, q2]) rfl ?_
      exact MakesQ.lift (w1 := W1) (by rw [← HBE.out]; exact HQ.out) rfl (by have := HS.out; omega) (Nat.le_refl _) hB.out _ _ _
end Go.Proofs.Ytcnghhlchjcdhaa.Dr
/- proportions: any numbers. -/
namespace Go.Proofs.Ytcnghhlchjcdhaa.Dr
open Go.RowKit

/-- natural numbers in memory: p 0, p 1 .. -/
def AllP (w : World) (vs : List Value) (p : Nat → Nat) (n : Nat) : Prop := vs.length = n ∧ ∀ i, i < n → ∃ (a : Option Addr) (c : Nat), vs[i]? = some (.slice a (dig (p i)).length c) ∧ Fr 0 w a c (dig (p i))
theorem AllP.below {w w' : World} {vs : List Value} {p : Nat → Nat} {n : Nat} (h : AllP w vs p n) (b : Below w.heap.size w w') : AllP w' vs p n := ⟨h.1, fun i hi => by
  obtain ⟨a, c, e, hn⟩ := h.2 i hi
  exact ⟨a, c, e, hn.below b⟩⟩
theorem AllP.keepRow {base n m : Nat} {w w' : World} {us vs : List Value} {p : Nat → Nat} {v : Value} (h : AllP w us p m) (ho : w.ownsRow base 31 1 v n vs) (g : w.grownBy w' v.ownBlock) : AllP w' us p m := ⟨h.1, fun i hi => by
  obtain ⟨a, c, e, hn⟩ := h.2 i hi
  exact ⟨a, c, e, hn.keepRow ho g⟩⟩
theorem AllP.snoc {w : World} {vs : List Value} {p : Nat → Nat} {n : Nat} {a : Option Addr} {c : Nat} (h : AllP w vs p n) (hf : Fr 0 w a c (dig (p n))) : AllP w (vs ++ [.slice a (dig (p n)).length c]) p (n + 1) := ⟨by simp [h.1], fun i hi => by
  by_cases e : i = n
  · subst e
    exact ⟨a, c, by rw [← h.1]; simp, hf⟩
  · obtain ⟨a', c', e', hn⟩ := h.2 i (by omega)
    exact ⟨a', c', by rw [List.getElem?_append_left (by rw [h.1]; omega)]; exact e', hn⟩⟩
def PrV (w : World) (N : Nat) (p : Nat → Nat) (e : Ending) (w' : World) : Prop := ∃ (a : Option Addr) (c : Nat) (vs : List Value) (so : Option Addr) (sn sc : Nat), e = .returned (.tuple #[.slice a N c, .slice so sn sc]) ∧ w'.ownsRow w.heap.size 31 1 (.slice a N c) N vs ∧ AllP w' vs p N ∧ sn = (dig (sN p N)).length ∧ Fr 0 w' so sc (dig (sN p N)) ∧ Below w.heap.size w w'

set_option maxHeartbeats 8000000 in
set_option maxRecDepth 100000 in
theorem proportions_v (ao : Option Addr) (cap N k K KP : Nat) (rs : List RV) (f : Nat → Rat) (w : World) (hN : N ≤ 200) (h : RdR w ao cap rs) (hf : RL w rs f N k) (hkK : k ≤ K) (hK : K ≤ 1000) (hL : ∀ i, i ≤ N → Sm (Lm f i) K) (hSP : ∀ i, i ≤ N → Sm (sN (pA f (Lm f N)) i) KP) :
    Calls Try.prog 25 #[.slice ao N cap] w (PrV w N (pA f (Lm f N))) := by
  obtain ⟨i0, hi, hz0, hz1, hz2⟩ := info_partsr infoNat
  have CM := commonMultiple_v ao cap N k K rs f w h hf hkK hK hL
  have HR := Lib.hid h
  have HF := Lib.hid hf
  have hc1 : N ≤ cap := by have := h.1; rw [hf.1] at this; exact this
  have hc2 := h.2.1
  obtain ⟨p, hp⟩ : ∃ p, p = pA f (Lm f N) := ⟨_, rfl⟩
  obtain ⟨LQ, hLQ⟩ : ∃ x, x = ((Lm f N : Nat) : Rat) := ⟨_, rfl⟩
  have HP : Hid (∀ i, p i = rn (f i * LQ)) := fun i => by rw [hp, hLQ]; rfl
  rw [← hp] at hSP ⊢
  rw [← hLQ] at CM
  have HSP := Lib.hid hSP
  have CM := Lib.hid CM
  clear h hf hL hSP hp hLQ
  go_enter Try.func25, Try.ntmps25
  go_wp2_with fail
  refine CM.out.mono ?_; rintro e W2 ⟨s2, a2, n2, c2, o2, m2, d2, rfl, cq2, b2⟩
  obtain ⟨W3, hW3⟩ : ∃ W, W = W2.alloc (.cells #[.bool s2, .slice a2 n2 c2, .slice o2 m2 d2] 33) := ⟨_, rfl⟩
  obtain ⟨g3, hg3⟩ : ∃ g, g = W2.heap.size := ⟨_, rfl⟩
  have b3 : Below W2.heap.size W2 W3 := by rw [hW3]; exact below_new _ _
  have x3 : Hid (W3.heap[g3]? = some (.cells #[.bool s2, .slice a2 n2 c2, .slice o2 m2 d2] 33 (0, 0))) := by rw [hW3, hg3]; exact heap_alloc_new _ _
  have hcq : Hid (CQ w.heap.size W3 s2 a2 n2 c2 o2 m2 d2 LQ K) := cq2.below b3
  have HB3 : Hid (Below w.heap.size w W3) := b2.trans (b3.mono b2.size)
  clear b2 b3 cq2 CM
  go_upto_region 4 with fail
  rw [← hW3]
  try rw [← hg3]
  clear hW3 hg3
  obtain ⟨M, hM⟩ : ∃ M, M = W3.heap.size := ⟨_, rfl⟩
  have HM := Lib.hid hM
  clear hM
  go_wp2_with fail
  go_loopw [14, 5, 6] (fun s14 s5 s6 wr => ∃ (i : Nat) (v : Value) (vs : List Value) (so : Option Addr) (sn sc : Nat), i ≤ N ∧ s14 = .int .i64 (i : Int) ∧ s5 = v ∧ s6 = .slice so sn sc ∧ Hid (wr.ownsRow M 31 1 v i vs) ∧ Hid (AllP wr vs p i) ∧ Hid (sn = (dig (sN p i)).length) ∧ Hid (Fr 0 wr so sc (dig (sN p i))) ∧ Hid (Below M W3 wr)) (fun s14 _ _ _ => N - (intOf s14).toNat)
  case atStart => exact ⟨0, _, [], none, 0, 0, by omega, rfl, rfl, rfl, World.ownsRow_nil _ _ _ _, (show AllP _ [] p 0 from ⟨rfl, fun i hi => absurd hi (Nat.not_lt_zero _)⟩), rfl, ⟨Nat.le_of_eq rfl, by omega, lims_dig 0, .inl ⟨rfl, rfl, rfl⟩⟩, Below.refl _ _⟩
  case round =>
    obtain ⟨i, v, vs, so, sn, sc, hi3, rfl, rfl, rfl, hown, hall, hsn, hsum, hbl⟩ := hrel
    have hbl3 : Hid (Below W3.heap.size W3 wr) := by rw [← HM.out]; exact hbl.out
    have HBW : Hid (Below w.heap.size w wr) := HB3.out.trans (hbl3.out.mono HB3.out.size)
    by_cases hlt : i < N
    · have hlt2 : (i : Int) < (N : Int) := by omega
      obtain ⟨b, o, rfl, hat⟩ := (HR.out.below HBW.out).at (by rw [HF.out.1]; omega)
      have hri := (HF.out.below HBW.out).2 i hlt
      obtain ⟨c0, c1, c2'⟩ := hat i (by rw [HF.out.1]; exact hlt)
      obtain ⟨r, hr⟩ : ∃ r, r = rs.getD i RV.nil := ⟨_, rfl⟩
      rw [← hr] at hri c0 c1 c2'
      have hic : i < cap := by omega
      obtain ⟨W5, hW5⟩ : ∃ W, W = wr.alloc (.cells #[.bool r.s, .slice r.ao r.n r.ca, .slice r.bo r.m r.cb] 33) := ⟨_, rfl⟩
      obtain ⟨g5, hg5⟩ : ∃ g, g = wr.heap.size := ⟨_, rfl⟩
      have b5 : Below wr.heap.size wr W5 := by rw [hW5]; exact below_new _ _
      have x5 : Hid (W5.heap[g5]? = some (.cells #[.bool r.s, .slice r.ao r.n r.ca, .slice r.bo r.m r.cb] 33 (0, 0))) := by rw [hW5, hg5]; exact heap_alloc_new _ _
      have hx5 := Lib.hid (carry (carry x3.out hbl3.out) b5)
      have ML := Lib.hid (Mul_q r.s s2 r.ao r.bo a2 o2 r.n r.ca r.m r.cb n2 c2 m2 d2 K (f i) LQ W5 ((hri.below b5).up hkK (by omega)) ((hcq.out.below hbl3.out).below b5).rq (by omega))
      have hown5 := Lib.hid (row_below hown.out b5)
      have hall5 := Lib.hid (hall.out.below b5)
      have hsum5 := Lib.hid (hsum.out.below b5)
      have hwM : M ≤ wr.heap.size := by rw [HM.out]; exact hbl3.out.size
      have HB5 : Hid (Below M W3 W5) := hbl.out.trans (b5.mono hwM)
      have hM5 : Hid (M ≤ W5.heap.size) := Nat.le_trans hwM b5.size
      clear hat hri hr b5 hbl hbl3 HBW hown hall hsum hwM
      go_upto_region 7 with fail
      rw [← hW5]
      try rw [← hg5]
      clear hW5 hg5 c0 c1 c2'
      obtain ⟨e0, e1, e2, _, _, _⟩ := at_block x5.out
      obtain ⟨f0, f1, f2, _, _, _⟩ := at_block hx5.out
      go_wp2_with fail
      refine ML.out.mono ?_; rintro e w6 ⟨s6, a6, n6, c6, o6, m6, d6, rfl, cq6, b6⟩
      have hn6 : Hid (n6 = (dig (p i)).length) := by unfold Hid; rw [cq6.2.1, HP.out i]
      have hN6 : Fr 0 w6 a6 c6 (dig (p i)) := by rw [HP.out i]; exact cq6.2.2.2.1.mono (Nat.zero_le _)
      have hSp : Hid (Sm (p i) (K + K + 1)) := by unfold Hid; rw [HP.out i]; exact cq6.2.2.2.2.2.1
      have hfl : (Instr.field 33 (.agg #[.bool s6, .slice a6 n6 c6, .slice o6 m6 d6]) 1).run Try.prog w6 = .ok (.slice a6 n6 c6) w6 := by kernel_rfl
      obtain ⟨W7, hW7⟩ : ∃ W, W = w6.alloc (.cells #[.slice a6 n6 c6] 31) := ⟨_, rfl⟩
      have b7 : Below w6.heap.size w6 W7 := by rw [hW7]; exact below_new _ _
      have hown7 := Lib.hid (row_below (row_below hown5.out b6) b7)
      have hall7 := Lib.hid ((hall5.out.below b6).below b7)
      have hsum7 := Lib.hid ((hsum5.out.below b6).below b7)
      have hN7 := Lib.hid (hN6.below b7)
      have HB7 : Hid (Below M W3 W7) := HB5.out.trans ((b6.trans (b7.mono b6.size)).mono hM5.out)
      have hM7 : Hid (M ≤ W7.heap.size) := Nat.le_trans hM5.out (Nat.le_trans b6.size b7.size)
      have hnews : Hid (∀ j u, [Value.slice a6 n6 c6][j]? = some u → W7.cell? ((⟨w6.heap.size, 0, none⟩ : Addr).add j) = some u) := by rw [hW7]; exact cell_one w6 _ _
      clear cq6 b6 e0 e1 e2 f0 f1 f2 ML hN6 b7 hown5 hall5 hsum5 HB5 hM5
      go_wp2_with (at_builtin; rw [← hW7]; refine wpList_append_own _ rfl _ _ 53 rfl M 31 i0 (.slice none 0 0) 1 24 Try.underlying53 hi hz0 hz1 hz2 rfl (by omega) _ _ _ rfl hown7.out ⟨w6.heap.size, 0, none⟩ 1 1 [.slice a6 n6 c6] rfl rfl hnews.out (by intro u hu; simp at hu; rcases hu with rfl; rfl) (by unfold maxLen; omega) (by omega) hM7.out ?_; intro v8 w8 hown8 hgr8 _; obtain ⟨a8, c8, rfl⟩ := row_n hown8; have HO8 := Lib.hid hown8; have HG8 := Lib.hid hgr8; have hs8 := Num.of_fr (hsum7.out.keepRow hown7.out hgr8) (HSP.out i (by omega)); have hn8 := Num.of_fr (hN7.out.keepRow hown7.out hgr8) hSp.out; rw [← hsn.out] at hs8; rw [← hn6.out] at hn8; have AD := Lib.hid (Add_num hs8 hn8); clear hown8 hgr8 hs8 hn8)
      refine AD.out.mono ?_; rintro e w9 ⟨s9, sc9, rfl, fr9, b9⟩
      have hB8 : Below M W3 w8 := HB7.out.trans (row_gb HG8.out hM7.out (fun k e => (hown7.out.lt k e).1))
      have HB9 : Hid (Below M W3 w9) := hB8.trans (b9.mono (Nat.le_trans hM7.out HG8.out.size))
      have HO9 : Hid (w9.ownsRow M 31 1 (.slice a8 (i + 1) c8) (i + 1) (vs ++ [.slice a6 n6 c6])) := row_below HO8.out b9
      have HA9 : Hid (AllP w9 (vs ++ [.slice a6 n6 c6]) p (i + 1)) := by
        rw [hn6.out]
        exact ((hall7.out.keepRow hown7.out HG8.out).below b9).snoc ((hN7.out.keepRow hown7.out HG8.out).below b9)
      have HS9 : Hid (Fr 0 w9 s9 sc9 (dig (sN p (i + 1)))) := fr9.mono (Nat.zero_le _)
      clear hB8 b9 fr9 AD
      go_wp2_with fail
      go_roundw
      case rel => exact ⟨i + 1, .slice a8 (i + 1) c8, _, s9, _, sc9, by omega, by go_num, rfl, rfl, HO9, HA9, rfl, HS9, HB9⟩
      case measure => simp [intOf]; omega
    · obtain rfl : i = N := by omega
      have hlt2 : ¬ (i : Int) < (i : Int) := by omega
      obtain ⟨a9, c9, rfl⟩ := row_n hown.out
      go_wp2_with fail
      refine bodyPost_ret (v := .tuple #[.slice a9 i c9, .slice so sn sc]) (by simp [results, Try.results25, go_sem]) rfl ?_
      exact ⟨a9, c9, vs, so, sn, sc, rfl, row_lift hown.out (by rw [HM.out]; exact HB3.out.size), hall.out, hsn.out, hsum.out, HBW.out⟩
end Go.Proofs.Ytcnghhlchjcdhaa.Dr
/- Allocate's mathematics: the parts add up to the total; a unit that is rounded up has a remainder; no part is 1 off. -/
namespace Go.Proofs.Ytcnghhlchjcdhaa.Dr
open Go.RowKit

theorem sN_congr {f g : Nat → Nat} : ∀ N, (∀ i, i < N → f i = g i) → sN f N = sN g N
  | 0, _ => rfl
  | N + 1, h => by
    unfold sN
    rw [sN_congr N (fun i hi => h i (by omega)), h N (by omega)]
theorem sN_add (f g : Nat → Nat) : ∀ N, sN (fun i => f i + g i) N = sN f N + sN g N
  | 0 => rfl
  | N + 1 => by
    have ih := sN_add f g N
    unfold sN
    omega
theorem sN_none : ∀ N, sN (fun _ => 0) N = 0
  | 0 => rfl
  | N + 1 => by unfold sN; rw [sN_none N]
theorem sN_one (b : Nat) : ∀ N, sN (fun i => if i = b then 1 else 0) N = if b < N then 1 else 0
  | 0 => by simp [sN]
  | N + 1 => by
    have ih := sN_one b N
    unfold sN
    rw [ih]
    by_cases h : b < N
    · rw [if_pos h, if_neg (by omega), if_pos (by omega)]
    · rw [if_neg h]
      by_cases e : N = b
      · rw [if_pos e, if_pos (by omega)]
      · rw [if_neg e, if_neg (by omega)]
/-- a unit is rounded up or not -/
def upN (od : List Nat) (k i : Nat) : Nat := if i ∈ od.take k then 1 else 0
theorem upN_zero (od : List Nat) (i : Nat) : upN od 0 i = 0 := by simp [upN]
theorem upN_next {N : Nat} {x : Nat → Int} {od : List Nat} (h : Ord N x od) {k : Nat} (hk : k < N) (i : Nat) : upN od (k + 1) i = upN od k i + if i = od.getD k 0 then 1 else 0 := by
  have hn := h.next hk
  unfold upN
  rw [take_getD od (by rw [h.len]; exact hk)]
  by_cases e : i = od.getD k 0
  · rw [if_pos e, if_pos (by rw [e]; simp), if_neg (by rw [e]; exact hn)]
  · rw [if_neg e]
    by_cases m : i ∈ od.take k
    · rw [if_pos m, if_pos (List.mem_append_left _ m)]
    · rw [if_neg m, if_neg (fun q => by rcases List.mem_append.1 q with q | q
                                        · exact m q
                                        · exact e (List.mem_singleton.1 q))]
theorem sN_up {N : Nat} {x : Nat → Int} {od : List Nat} (h : Ord N x od) : ∀ k, k ≤ N → sN (upN od k) N = k
  | 0, _ => by rw [sN_congr (g := fun _ => 0) N (fun i _ => upN_zero od i), sN_none]
  | k + 1, hk => by
    rw [sN_congr (g := fun i => upN od k i + if i = od.getD k 0 then 1 else 0) N (fun i _ => upN_next h (by omega) i), sN_add, sN_up h k (by omega), sN_one, if_pos (h.get (by omega))]

theorem T_upto {N : Nat} {r : Nat → Int} {od : List Nat} {P : Int} (h : Ord N r od) (h0 : ∀ i, i < N → r i < P) : ∀ j : Nat, j ≤ N → T r od 0 ≤ (P - 1) * (j : Int) + T r od j
  | 0, _ => by simp
  | j + 1, hj => by
    have ih := T_upto h h0 j (by omega)
    have hn := T_next h (show j < N by omega)
    have hb := h0 _ (h.get (show j < N by omega))
    have e : (P - 1) * ((j + 1 : Nat) : Int) = (P - 1) * (j : Int) + (P - 1) := by
      rw [Int.natCast_succ, Int.mul_add, Int.mul_one]
    rw [e]
    omega
theorem T_nil {N : Nat} {r : Nat → Int} {od : List Nat} (h : Ord N r od) (h0 : ∀ i, i < N → 0 ≤ r i) {j : Nat} (hj : j < N) (hz : r (od.getD j 0) = 0) : ∀ d m, m + d = N → j ≤ m → T r od m = 0
  | 0, m, e, _ => by
    obtain rfl : m = N := by omega
    exact T_end h
  | d + 1, m, e, hm => by
    have hmN : m < N := by omega
    rw [T_next h hmN, T_nil h h0 hj hz d (m + 1) (by omega) (by omega)]
    have hn : od.getD m 0 ∉ od.take j := fun q => h.next hmN (by
      have e : od.take j = (od.take m).take j := by rw [List.take_take, Nat.min_eq_left hm]
      rw [e] at q
      exact List.mem_of_mem_take q)
    have hb := (h.best hj (h.get hmN) hn).1
    have hc := h0 _ (h.get hmN)
    omega
/-- the units that are rounded up have a remainder -/
theorem up_pos {N l : Nat} {r : Nat → Int} {od : List Nat} {P : Int} (h : Ord N r od) (h0 : ∀ i, i < N → 0 ≤ r i ∧ r i < P) (e : T r od 0 = P * (l : Int)) {j : Nat} (hj : j < l) (hjN : j < N) : 0 < r (od.getD j 0) := by
  have hb := h0 _ (h.get hjN)
  by_cases hz : r (od.getD j 0) = 0
  · have h1 := T_upto h (fun i hi => (h0 i hi).2) j (by omega)
    rw [T_nil h (fun i hi => (h0 i hi).1) hjN hz (N - j) j (by omega) (Nat.le_refl _), e] at h1
    obtain ⟨c, rfl⟩ : ∃ c : Nat, l = j + 1 + c := ⟨l - (j + 1), by omega⟩
    have e1 : P * ((j + 1 + c : Nat) : Int) = P * (j : Int) + P + P * (c : Int) := by
      rw [Int.natCast_add, Int.natCast_succ, Int.mul_add, Int.mul_add, Int.mul_one]
    have e2 : (P - 1) * (j : Int) = P * (j : Int) - (j : Int) := by rw [Int.sub_mul, Int.one_mul]
    rw [e1, e2] at h1
    have hc : 0 ≤ P * (c : Int) := Int.mul_nonneg (by omega) (by omega)
    omega
  · omega
theorem mem_take {od : List Nat} {k i : Nat} (hk : k ≤ od.length) (h : i ∈ od.take k) : ∃ j, j < k ∧ od.getD j 0 = i := by
  obtain ⟨j, hj, e⟩ := List.mem_iff_getElem.1 h
  have hjk : j < k := by simp at hj; omega
  refine ⟨j, hjk, ?_⟩
  rw [← e]
  simp [List.getD, show j < od.length by omega]
/-- no part is 1 or more off its share -/
theorem dev_lt {r P : Int} {u : Nat} (hP : 1 ≤ P) (h0 : 0 ≤ r) (h1 : r < P) (hu : u = 0 ∨ (u = 1 ∧ 0 < r)) : (fq r P - (u : Rat)) * (fq r P - (u : Rat)) < 1 := by
  obtain ⟨g0, g1⟩ := fq_unit (by omega) h0 h1
  obtain ⟨d, hd⟩ : ∃ d, d = fq r P - (u : Rat) := ⟨_, rfl⟩
  rw [← hd]
  have hb : -1 < d ∧ d < 1 := by
    rcases hu with rfl | ⟨rfl, hr⟩
    · rw [hd, show ((0 : Nat) : Rat) = 0 from rfl]
      constructor <;> grind
    · have g2 := fq_mono_lt hP (Int.le_refl 0) hr
      rw [fq_zero hP] at g2
      rw [hd, show ((1 : Nat) : Rat) = 1 from rfl]
      constructor <;> grind
  have hm := Rat.mul_pos (show 0 < 1 - d by grind) (show 0 < 1 + d by grind)
  have e : (1 - d) * (1 + d) = 1 - d * d := by grind
  rw [e] at hm
  grind
end Go.Proofs.Ytcnghhlchjcdhaa.Dr
/- The order of the remainders: the closure of Allocate, and what ranked gives by it. -/
namespace Go.Proofs.Ytcnghhlchjcdhaa.Dr
open Go.RowKit Go.Sort C6

/-- the box of the remainders, and they: r 0, r 1 .. -/
def RemG (w : World) (gR gr cR N : Nat) (r : Nat → Nat) : Prop := w.cell? ⟨gR, 0, none⟩ = some (.slice (some ⟨gr, 0, none⟩) N cR) ∧ ∀ i, i < N → ∃ (ao : Option Addr) (ca : Nat), w.cell? ⟨gr, i, none⟩ = some (.slice ao (dig (r i)).length ca) ∧ Fr 0 w ao ca (dig (r i))
theorem RemG.below {w w' : World} {gR gr cR N : Nat} {r : Nat → Nat} (h : RemG w gR gr cR N r) (b : Below w.heap.size w w') : RemG w' gR gr cR N r := ⟨(World.cell?_of_block (a := ⟨gR, 0, none⟩) (b.block gR (World.block_lt_of_cell? _ _ h.1))).trans h.1, fun i hi => by
  obtain ⟨ao, ca, hc, hf⟩ := h.2 i hi
  exact ⟨ao, ca, (World.cell?_of_block (a := ⟨gr, i, none⟩) (b.block gr (World.block_lt_of_cell? _ _ hc))).trans hc, hf.below b⟩⟩

set_option maxHeartbeats 4000000 in
set_option maxRecDepth 100000 in
theorem rem_cmp (gR gr cR N k : Nat) (r : Nat → Nat) (a b : Nat) (ha : a < N) (hb : b < N) (hc : N ≤ cR) (hs : ∀ i, i < N → Sm (r i) k) (W : World) (h : RemG W gR gr cR N r) :
    Calls Try.prog 31 #[.int .i64 (a : Int), .int .i64 (b : Int), .pointer (some ⟨gR, 0, none⟩)] W fun e w' => e = .returned (.int .i64 (cmpn (r b) (r a))) ∧ ∃ q, w' = W.drewN q := by
  obtain ⟨h1, h2⟩ := h
  obtain ⟨ao, ca, ka, fa⟩ := h2 a ha
  obtain ⟨bo, cb, kb, fb⟩ := h2 b hb
  obtain ⟨C, hC⟩ : ∃ C, C = cmpn (r b) (r a) := ⟨_, rfl⟩
  have HC : Hid (∀ n, Calls Try.prog 32 #[.slice bo (dig (r b)).length cb, .slice ao (dig (r a)).length ca] (W.drewN n) fun e w' => e = .returned (.int .i64 C) ∧ W.drewN n = w') := fun n => by
    rw [hC]
    exact Compare_num (w := W.drewN n) (Num.of_fr (show Fr 0 (W.drewN n) bo cb (dig (r b)) from fb) (hs b hb)) (Num.of_fr (show Fr 0 (W.drewN n) ao ca (dig (r a)) from fa) (hs a ha))
  rw [← hC]
  have haI : (a : Int) < (N : Int) := by omega
  have hbI : (b : Int) < (N : Int) := by omega
  have hac : a < cR := by omega
  have hbc : b < cR := by omega
  obtain ⟨n1, hn1⟩ : ∃ n, n = (dig (r a)).length := ⟨_, rfl⟩
  obtain ⟨n2, hn2⟩ : ∃ n, n = (dig (r b)).length := ⟨_, rfl⟩
  rw [← hn1, ← hn2] at HC
  rw [← hn1] at ka
  rw [← hn2] at kb
  clear fa fb h2 hs hn1 hn2 hC
  go_enter Try.func31, Try.ntmps31
  go_wp2_with fail
  go_quiet ((go_at_call 32; exact Calls.quiet_of_same ((HC.out _).mono fun e w' h => ⟨h.1, h.2.symm⟩)))
  go_wp2_with fail
  go_ret
  exact ⟨rfl, _, rfl⟩

theorem cmpU_rem (gR gr cR N k : Nat) (r : Nat → Nat) (hc : N ≤ cR) (hs : ∀ i, i < N → Sm (r i) k) (w : World) (h : RemG w gR gr cR N r) :
    CmpU N (fun a b => cmpn (r b.val) (r a.val)) 31 #[.pointer (some ⟨gR, 0, none⟩)] w := fun W hb a b => rem_cmp gR gr cR N k r a.val b.val a.isLt b.isLt hc hs W (h.below hb)
theorem lt_rem (r : Nat → Nat) {N : Nat} : (ltOf fun a b : Fin N => cmpn (r b.val) (r a.val)) = ltk (fun i : Fin N => -((r i.val : Nat) : Int)) := by
  funext a b
  unfold ltOf ltk cmpn
  apply decide_eq_decide.2
  show (if r b.val < r a.val then (-1 : Int) else if r a.val < r b.val then 1 else 0) < 0 ↔ -((r a.val : Nat) : Int) < -((r b.val : Nat) : Int)
  split
  · omega
  · split <;> omega
/-- the units in the order of the remainders, as a row of one's own -/
theorem ranked_rem (gR gr cR N k : Nat) (r : Nat → Nat) (h0 : 0 < N) (h19 : N ≤ 19) (hc : N ≤ cR) (hs : ∀ i, i < N → Sm (r i) k) :
    ∃ od : List Nat, Ord N (fun i => ((r i : Nat) : Int)) od ∧ ∀ w, RemG w gR gr cR N r → Calls Try.prog 30 #[.int .i64 (N : Int), .func (.func 31) #[] #[.pointer (some ⟨gR, 0, none⟩)]] w (RankPost N (od.map fun (i : Nat) => Value.int .i64 (i : Int)) w) := by
  haveI : Inhabited (Fin N) := ⟨⟨0, h0⟩⟩
  obtain ⟨l, hl, ho, hln⟩ := ord_sort N (fun i => ((r i : Nat) : Int))
  refine ⟨l.map Fin.val, ho, fun w hw => ?_⟩
  have eg : ∀ args w, (callFunc 31 args).run Try.prog w = .ok (.enter 31 args) w := Go.Proofs.enters_of Try.func31 (by kernel_rfl) rfl
  have hss : Sort.insertionSort (ltOf fun a b : Fin N => cmpn (r b.val) (r a.val)) (List.finRange N).toArray 0 N = l.toArray := by
    rw [lt_rem r]; exact hl
  have := ranked_any N h19 (fun a b => cmpn (r b.val) (r a.val)) _ _ eg w (cmpU_rem gR gr cR N k r hc hs w hw) (by rw [hss]; simpa using hln)
  have e : srtL (fun a b : Fin N => cmpn (r b.val) (r a.val)) = (l.map Fin.val).map fun (i : Nat) => Value.int .i64 (i : Int) := by
    unfold srtL
    rw [hss]
    simp [encN]
  rwa [e] at this

/-- a row of N integers of which the first i are laid -/
def flA (N : Nat) (c : Nat → Int) (i : Nat) : List Value := (List.range N).map fun j => .int .i64 (if j < i then c j else 0)
theorem flA_len (N : Nat) (c : Nat → Int) (i : Nat) : (flA N c i).length = N := by simp [flA]
theorem flA_set {N : Nat} {c : Nat → Int} {i : Nat} (_ : i < N) : (flA N c i).set i (.int .i64 (c i)) = flA N c (i + 1) := by
  apply List.ext_getElem
  · simp [flA]
  · intro j h1 h2
    have hj : j < N := by simpa [flA] using h2
    rw [List.getElem_set]
    by_cases e : i = j
    · subst e
      rw [if_pos rfl]
      simp [flA]
    · rw [if_neg e]
      simp only [flA, List.getElem_map, List.getElem_range]
      by_cases l : j < i
      · rw [if_pos l, if_pos (by omega)]
      · rw [if_neg l, if_neg (by omega)]
theorem flA_get {N : Nat} {c : Nat → Int} {i j : Nat} (hj : j < N) : (flA N c i)[j]? = some (.int .i64 (if j < i then c j else 0)) := by
  simp [flA, hj]
/-- a row of N integers -/
def rowF (N : Nat) (c : Nat → Int) : List Value := (List.range N).map fun j => .int .i64 (c j)
theorem flA_all (N : Nat) (c : Nat → Int) : flA N c N = rowF N c := by
  unfold flA rowF
  apply List.map_congr_left
  intro j hj
  rw [if_pos (by simpa using hj)]
theorem rowF_get {N : Nat} {c : Nat → Int} {j : Nat} (hj : j < N) : (rowF N c)[j]? = some (.int .i64 (c j)) := by
  simp [rowF, hj]
/-- one unit more is rounded up -/
theorem rowF_up {N : Nat} {x : Nat → Int} {od : List Nat} (h : Ord N x od) (c : Nat → Int) {k : Nat} (hk : k < N) : (rowF N (fun j => c j + (upN od k j : Nat))).set (od.getD k 0) (.int .i64 (c (od.getD k 0) + (upN od k (od.getD k 0) : Nat) + 1)) = rowF N (fun j => c j + (upN od (k + 1) j : Nat)) := by
  apply List.ext_getElem
  · simp [rowF]
  · intro j h1 h2
    have hj : j < N := by simpa [rowF] using h2
    rw [List.getElem_set]
    simp only [rowF, List.getElem_map, List.getElem_range]
    rw [upN_next h hk j]
    by_cases e : od.getD k 0 = j
    · rw [if_pos e, if_pos e.symm, e]
      congr 1
      push_cast
      omega
    · rw [if_neg e, if_neg (fun q => e q.symm)]
      rfl
/-- the remainders laid so far -/
def RemP (w : World) (gM k : Nat) (r : Nat → Nat) : Prop := ∀ j, j < k → ∃ (ao : Option Addr) (ca : Nat), w.cell? ⟨gM, j, none⟩ = some (.slice ao (dig (r j)).length ca) ∧ Fr 0 w ao ca (dig (r j))
end Go.Proofs.Ytcnghhlchjcdhaa.Dr
/- Allocate's mathematics: the sizes' test by their sum; how many limbs the common multiple and the natural numbers have. -/
namespace Go.Proofs.Ytcnghhlchjcdhaa.Dr
open Go.RowKit

theorem rn_mul_le (x : Rat) (n : Nat) : rn (x * (n : Rat)) ≤ rn x * n := by
  have e : x * (n : Rat) = rq (rs x != false) (rn x * n) (x.den * 1) := by
    rw [rq_mul, rq_self]
    have e2 : rq false n 1 = (n : Rat) := by
      have h := fq_div (a := (n : Int)) (b := 1) (by omega) (by omega)
      have h2 : fq (n : Int) 1 = rq false n 1 := by
        unfold fq
        rw [decide_eq_false (show ¬ (n : Int) < 0 by omega), Int.natAbs_natCast]
        rfl
      rw [← h2, h, Rat.intCast_natCast]
      have h3 : (((1 : Int) : Rat)) = 1 := rfl
      rw [h3, Rat.div_def]
      grind
    rw [e2]
  rw [e]
  exact (rq_le (by have := x.den_pos; omega)).1
theorem Lm_sm {q : Nat → Rat} {k N : Nat} (hk : 1 ≤ k) (hN : N ≤ 19) (hk2 : k ≤ 1000) (h : ∀ i, i < N → Sm (q i).den k) : ∀ i, i ≤ N → Sm (Lm q i) (k * 19) := fun i hi => by
  have h1 : Lm q i ≤ (pw k - 1) ^ i := Lm_bd i (fun j hj => by have := (h j (by omega)).1; omega)
  have hp : 1 ≤ pw k - 1 := by
    have : pw 1 ≤ pw k := pw_mono hk
    have e : pw 1 = 4294967296 := rfl
    omega
  have h2 : (pw k - 1) ^ i ≤ (pw k - 1) ^ 19 := Nat.pow_le_pow_right hp (by omega)
  have h3 : (pw k - 1) ^ 19 < (pw k) ^ 19 := Nat.pow_lt_pow_left (by omega) (by omega)
  have h4 : (pw k) ^ 19 = pw (k * 19) := by unfold pw; rw [← Nat.pow_mul]
  exact ⟨by omega, by omega⟩
theorem sN_le {f : Nat → Nat} {B : Nat} : ∀ N, (∀ i, i < N → f i ≤ B) → sN f N ≤ N * B
  | 0, _ => by simp [sN]
  | N + 1, h => by
    have ih := sN_le N (fun i hi => h i (by omega))
    have := h N (by omega)
    unfold sN
    rw [Nat.succ_mul]
    omega
theorem pA_sm {q : Nat → Rat} {k K L N : Nat} (hN : N ≤ 19) (hL : Sm L K) (hK : k + K + 1 ≤ 1000) (h : ∀ i, i < N → Sm (rn (q i)) k) : ∀ i, i ≤ N → Sm (sN (pA q L) i) (k + K + 1) := fun i hi => by
  have h1 : ∀ j, j < i → pA q L j ≤ pw (k + K) := fun j hj => by
    have hm := (Sm.mul (h j (by omega)) hL (by omega)).1
    have := rn_mul_le (q j) L
    unfold pA
    omega
  have h2 := sN_le i h1
  have h3 : i * pw (k + K) ≤ 19 * pw (k + K) := Nat.mul_le_mul_right _ (by omega)
  have h4 : pw (k + K + 1) = pw (k + K) * 4294967296 := rfl
  have h5 : 1 ≤ pw (k + K) := by have := pw_mono (i := 0) (j := k + K) (by omega); have e : pw 0 = 1 := rfl; omega
  exact ⟨by omega, by omega⟩
theorem sgn_nn {q : Rat} : 0 ≤ sgn q ↔ 0 ≤ q := by
  have h := sgn_neg_iff q
  constructor
  · intro h1
    exact Rat.not_lt.1 (fun h2 => by have := h.2 h2; omega)
  · intro h1
    by_cases h2 : sgn q < 0
    · exact absurd h1 (Rat.not_le.2 (h.1 h2))
    · omega
theorem anyP_iff (f : Nat → Rat) : ∀ N, anyP f N = true ↔ ∃ i, i < N ∧ 0 < sgn (f i)
  | 0 => ⟨fun h => (by cases h), fun ⟨i, hi, _⟩ => absurd hi (Nat.not_lt_zero _)⟩
  | N + 1 => by
    have ih := anyP_iff f N
    unfold anyP
    rw [Bool.or_eq_true, ih, decide_eq_true_iff]
    constructor
    · rintro (⟨i, hi, h⟩ | h)
      · exact ⟨i, by omega, h⟩
      · exact ⟨N, by omega, h⟩
    · rintro ⟨i, hi, h⟩
      by_cases e : i = N
      · right; rw [← e]; exact h
      · left; exact ⟨i, by omega, h⟩
/-- with no number negative: some is positive where the sum is not 0 -/
theorem any_sum {f : Nat → Rat} {N : Nat} (ha : allP f N = true) : anyP f N = true ↔ qs f N ≠ 0 := by
  have hs := (allP_iff f N).1 ha
  have h0 : ∀ i, i < N → 0 ≤ f i := fun i hi => sgn_nn.1 (hs i hi)
  have hz := qs_eq_zero N h0
  rw [anyP_iff]
  constructor
  · rintro ⟨i, hi, h⟩ e
    have := sgn_zero_iff.2 (hz.1 e i hi)
    omega
  · intro h
    refine Classical.byContradiction fun hn => h (hz.2 fun i hi => ?_)
    refine sgn_zero_iff.1 ?_
    have h1 := hs i hi
    by_cases h2 : 0 < sgn (f i)
    · exact absurd ⟨i, hi, h2⟩ hn
    · omega
/-- the sum of the natural numbers is positive where the sum is not 0 -/
theorem sN_pos {f : Nat → Rat} {N : Nat} (ha : allP f N = true) (hy : anyP f N = true) : 0 < sN (pA f (Lm f N)) N := by
  have hs := (allP_iff f N).1 ha
  have e := sN_rat (q := f) (L := Lm f N) N (fun i hi => pA_eq (sgn_nn.1 (hs i hi)) (Lm_den f N i hi))
  rcases Nat.eq_zero_or_pos (sN (pA f (Lm f N)) N) with h | h
  · exfalso
    rw [h] at e
    have hq := (any_sum ha).1 hy
    have hl := nat_ne (Lm_pos f N)
    have e0 : qs f N * (Lm f N : Rat) = 0 := e.symm
    rcases Rat.mul_eq_zero.1 e0 with h1 | h1
    · exact hq h1
    · exact hl h1
  · exact h
end Go.Proofs.Ytcnghhlchjcdhaa.Dr
