import Derived.Test.YtcnghhlchjcdhaaDrA
import Derived.Test.YtcnghhlchjcdhaaEstA
import Derived.Test.YtcnghhlchjcdhaaRatsD
import Derived.Test.YtcnghhlchjcdhaaRatsE
import Derived.Test.YtcnghhlchjcdhaaSmpAw
import Derived.Test.YtcnghhlchjcdhaaNums
import Derived.Test.YtcnghhlchjcdhaaPairs
/- A draw: which part of the interval a length is; rows of numbers that are set one by one. -/
namespace Go.Proofs.Ytcnghhlchjcdhaa.Dr
open Go.RowKit Go.Sort C6

/-- a quotient of integers -/
def fq (a b : Int) : Rat := rq (decide (a < 0) != decide (b < 0)) a.natAbs b.natAbs
/-- a row of numbers, one of them set -/
theorem rvs_set (r : RV) : ∀ (rs : List RV) (u : Nat), (((rvs rs).set (u * 3) (.bool r.s)).set (u * 3 + 1) (.slice r.ao r.n r.ca)).set (u * 3 + 2) (.slice r.bo r.m r.cb) = rvs (rs.set u r)
  | [], u => by simp [rvs]
  | r0 :: rs, u => by
    have e : ∀ (q : RV) (l : List RV), rvs (q :: l) = .bool q.s :: .slice q.ao q.n q.ca :: .slice q.bo q.m q.cb :: rvs l := fun q l => rfl
    cases u with
    | zero => simp [e]
    | succ u =>
      have ih := rvs_set r rs u
      rw [show (u + 1) * 3 = u * 3 + 3 by omega, show u * 3 + 3 + 1 = u * 3 + 1 + 3 by omega, show u * 3 + 3 + 2 = u * 3 + 2 + 3 by omega]
      simp only [e, List.set_cons_succ]
      rw [ih]
theorem made_rvs : ∀ N : Nat, (madeCells (Value.agg #[.bool false, .slice none 0 0, .slice none 0 0]).cells (N * 3)).toList = rvs (List.replicate N RV.nil)
  | 0 => by simp [madeCells, rvs]
  | N + 1 => by
    have ih := made_rvs N
    unfold madeCells at ih ⊢
    rw [show (N + 1) * 3 = N * 3 + 1 + 1 + 1 by omega]
    simp only [Array.toList_map, Array.toList_range] at ih ⊢
    rw [List.range_succ, List.range_succ, List.range_succ, List.map_append, List.map_append, List.map_append, ih, List.replicate_succ', show rvs (List.replicate N RV.nil ++ [RV.nil]) = rvs (List.replicate N RV.nil) ++ RV.nil.vals by simp [rvs], List.append_assoc, List.append_assoc]
    congr 1
    have h0 : N * 3 % 3 = 0 := by omega
    have h1 : (N * 3 + 1) % 3 = 1 := by omega
    have h2 : (N * 3 + 1 + 1) % 3 = 2 := by omega
    simp [Value.cells, h0, h1, h2, RV.vals, RV.nil]
/-- some numbers of a row are known -/
def Inc (w : World) (N : Nat) (rs : List RV) (P : Nat → Option Rat) : Prop := rs.length = N ∧ ∀ u, u < N → ∀ q, P u = some q → CQ 0 w (rs.getD u RV.nil).s (rs.getD u RV.nil).ao (rs.getD u RV.nil).n (rs.getD u RV.nil).ca (rs.getD u RV.nil).bo (rs.getD u RV.nil).m (rs.getD u RV.nil).cb q 2
theorem Inc.below {w w' : World} {N : Nat} {rs : List RV} {P : Nat → Option Rat} (h : Inc w N rs P) (b : Below w.heap.size w w') : Inc w' N rs P := ⟨h.1, fun u hu q hq => (h.2 u hu q hq).below b⟩
theorem Inc.keep {w w' : World} {N : Nat} {rs : List RV} {P : Nat → Option Rat} {base l : Nat} {v : Value} {vs : List Value} (h : Inc w N rs P) (ho : w.ownsRow base 33 3 v l vs) (g : w.grownBy w' v.ownBlock) : Inc w' N rs P := ⟨h.1, fun u hu q hq => (h.2 u hu q hq).keepRow3 ho g⟩
theorem Inc.put {w : World} {N : Nat} {rs : List RV} {P P' : Nat → Option Rat} (h : Inc w N rs P) {u : Nat} {r : RV} {q : Rat} (hr : CQ 0 w r.s r.ao r.n r.ca r.bo r.m r.cb q 2) (hP : ∀ v q', P' v = some q' → (v = u ∧ q' = q) ∨ (v ≠ u ∧ P v = some q')) : Inc w N (rs.set u r) P' := by
  refine ⟨by rw [List.length_set, h.1], fun v hv q' hq => ?_⟩
  rcases hP v q' hq with ⟨rfl, rfl⟩ | ⟨hne, hp⟩
  · have : (rs.set v r).getD v RV.nil = r := by
      have : v < rs.length := by rw [h.1]; exact hv
      simp [List.getD, this]
    rw [this]; exact hr
  · have : (rs.set u r).getD v RV.nil = rs.getD v RV.nil := by
      simp [List.getD, List.getElem?_set_ne (Ne.symm hne)]
    rw [this]; exact h.2 v hv q' hp
/-- one number of a row of one's own is set -/
theorem row_set3 {w : World} {base g n cap : Nat} {rs : List RV} (h : w.ownsRow base 33 3 (.slice (some ⟨g, 0, none⟩) n cap) n (rvs rs)) (u : Nat) (r : RV) :
    (((w.setCell ⟨g, u * 3, none⟩ (.bool r.s)).setCell ⟨g, u * 3 + 1, none⟩ (.slice r.ao r.n r.ca)).setCell ⟨g, u * 3 + 2, none⟩ (.slice r.bo r.m r.cb)).ownsRow base 33 3 (.slice (some ⟨g, 0, none⟩) n cap) n (rvs (rs.set u r)) ∧
    w.grownBy (((w.setCell ⟨g, u * 3, none⟩ (.bool r.s)).setCell ⟨g, u * 3 + 1, none⟩ (.slice r.ao r.n r.ca)).setCell ⟨g, u * 3 + 2, none⟩ (.slice r.bo r.m r.cb)) (some g) := by
  obtain ⟨h1, g1⟩ := h.stored (u * 3) (.bool r.s)
  obtain ⟨h2, g2⟩ := h1.stored (u * 3 + 1) (.slice r.ao r.n r.ca)
  obtain ⟨h3, g3⟩ := h2.stored (u * 3 + 2) (.slice r.bo r.m r.cb)
  rw [rvs_set] at h3
  exact ⟨h3, gb_trans (gb_trans (gbs _ _ _ _) (gbs _ _ _ _)) (gbs _ _ _ _)⟩
end Go.Proofs.Ytcnghhlchjcdhaa.Dr
/- sample.Inclusion: the probabilities of a draw. -/
namespace Go.Proofs.Ytcnghhlchjcdhaa.Dr
open Go.RowKit Go.Sort C6 SN

/-- stands through worlds whose block g may turn -/
def StG (g : Nat) (p : Value → World → Prop) : Prop := ∀ v w w', p v w → w.grownBy w' (some g) → p v w'
theorem StG.val (g : Nat) (x : Value) : StG g (fun v _ => v = x) := fun _ _ _ h _ => h
theorem StG.triv (g : Nat) : StG g (fun _ _ => True) := fun _ _ _ h _ => h
def kCQ (B : Nat) (q : Rat) : Value → World → Prop := fun v w => ∃ s a n c o m d, v = .agg #[.bool s, .slice a n c, .slice o m d] ∧ CQ B w s a n c o m d q 2
theorem cq_gbl {B g : Nat} {w w' : World} {s : Bool} {ao : Option Addr} {n ca : Nat} {bo : Option Addr} {m cb : Nat} {q : Rat} {k : Nat} (h : CQ B w s ao n ca bo m cb q k) (hB : g < B) (b : w.grownBy w' (some g)) : CQ B w' s ao n ca bo m cb q k := by
  obtain ⟨h1, h2, h3, h4, h5, h6⟩ := h
  have key : ∀ {ao : Option Addr} {ca : Nat} {xs : List Nat}, Fr B w ao ca xs → Fr B w' ao ca xs := fun hf => hf.grown b (fun a e q => by
    rcases hf.2.2.2 with ⟨h, _⟩ | ⟨b, h, hb, _⟩
    · rw [e] at h; cases h
    · rw [e] at h; cases h
      have := Option.some.inj q
      simp at this; omega)
  exact ⟨h1, h2, h3, key h4, key h5, h6⟩
theorem StG.cq {g B : Nat} (hB : g < B) (q : Rat) : StG g (kCQ B q) := by
  rintro v w w' ⟨s, a, n, c, o, m, d, rfl, h⟩ b
  exact ⟨s, a, n, c, o, m, d, rfl, cq_gbl h hB b⟩
def StGL (g : Nat) : List (Value → World → Prop) → Prop
  | [] => True
  | p :: l => StG g p ∧ StGL g l
theorem StGL.all {g : Nat} : ∀ {l : List (Value → World → Prop)}, StGL g l → ∀ p ∈ l, StG g p
  | [], _, p, hp => by simp at hp
  | q :: l, h, p, hp => by
    rcases List.mem_cons.1 hp with rfl | hp
    · exact h.1
    · exact h.2.all p hp
def LsG (l : List (Value → World → Prop)) (i : Nat) (v : Value) (w : World) : Prop := (l.getD i (fun _ _ => True)) v w
theorem LsG.ext {g : Nat} {l : List (Value → World → Prop)} (h : ∀ p ∈ l, StG g p) (i : Nat) (v : Value) (w w' : World) (hr : LsG l i v w) (hE : w.grownBy w' (some g)) : LsG l i v w' := by
  unfold LsG at hr ⊢
  rw [List.getD] at hr ⊢
  cases hg : l[i]? with
  | none => trivial
  | some p =>
    rw [hg] at hr
    exact h p (List.mem_of_getElem? hg) v w w' hr hE
theorem lays_mem {x : Nat → Int} {C : List Nat} {m : Int} (hm : 0 ≤ m ∧ m ≤ 19) {N : Nat} (hx : ∀ i, i < N → 1 ≤ x i ∧ x i ≤ 1099511627776) : ∀ i, i ≤ N → ∀ p ∈ (lays x C m i).1, p.1 < i ∧ ¬ p.1 ∈ C ∧ p.2.2 - p.2.1 = x p.1 * m ∧ 0 ≤ p.2.1 ∧ p.2.2 ≤ (i : Int) * 20890720927744 := by
  intro i
  induction i with
  | zero => intro _ p hp; simp [lays] at hp
  | succ i ih =>
    intro hi p hp
    by_cases hc : i ∈ C
    · rw [lays_in hc] at hp
      obtain ⟨h1, h2, h3, h4, h5⟩ := ih (by omega) p hp
      exact ⟨by omega, h2, h3, h4, by omega⟩
    · rw [lays_out hc] at hp
      rcases List.mem_append.1 hp with hp | hp
      · obtain ⟨h1, h2, h3, h4, h5⟩ := ih (by omega) p hp
        exact ⟨by omega, h2, h3, h4, by omega⟩
      · have hb := lays_bd (C := C) hm hx i (by omega)
        have hb2 := lays_bd (C := C) hm hx (i + 1) (by omega)
        rw [lays_out hc] at hb2
        rw [List.mem_singleton.1 hp]
        simp only at hb2 ⊢
        exact ⟨by omega, hc, by omega, hb.1, hb2.2.1⟩
theorem lays_cov {x : Nat → Int} {C : List Nat} {m : Int} : ∀ i u, u < i → ¬ u ∈ C → u ∈ (lays x C m i).1.map (fun p => p.1) := by
  intro i
  induction i with
  | zero => intro u hu; omega
  | succ i ih =>
    intro u hu hc
    by_cases hci : i ∈ C
    · rw [lays_in hci]
      exact ih u (by have : u ≠ i := fun e => hc (by rw [e]; exact hci); omega) hc
    · rw [lays_out hci, List.map_append]
      by_cases e : u = i
      · rw [e]; simp
      · exact List.mem_append_left _ (ih u (by omega) hc)
/-- the probability of a unit -/
def incQ (x : Nat → Int) (od : List Nat) (K : Nat) (M : Int) (i : Nat) : Rat := if i ∈ od.take K then 1 else fq (x i * M) (T x od K)
/-- a slice reads N numbers in their canonical form -/
def RdN (w : World) (a : Option Addr) (c N : Nat) (Q : Nat → Rat) : Prop := ∃ rs, rs.length = N ∧ RdR w a c rs ∧ Inc w N rs (fun i => some (Q i))
/-- what Inclusion gives -/
def IncPost (xs : List Int) (n : Int) (w : World) (e : Ending) (w' : World) : Prop := Below w.heap.size w w' ∧
  ((drE xs n ≠ 0 ∧ e = .returned (.tuple #[.slice none 0 0, .int .i64 (drE xs n)])) ∨
   (drE xs n = 0 ∧ ∃ (m : Nat) (od : List Nat) (K : Nat) (a : Option Addr) (c : Nat), n = (m : Int) ∧ 1 ≤ m ∧ m ≤ xs.length ∧ szs xs = true ∧ Ord xs.length (fx xs) od ∧ Cert xs.length (fx xs) od m K ∧
    e = .returned (.tuple #[.slice a xs.length c, .int .i64 0]) ∧ RdN w' a c xs.length (incQ (fx xs) od K ((m : Int) - (K : Int)))))
def P1 (od : List Nat) (k : Nat) (u : Nat) : Option Rat := if u ∈ od.take k then some 1 else none
def P2 (C : List Nat) (Q : Nat → Rat) (l : List Pc) (j : Nat) (u : Nat) : Option Rat := if u ∈ C then some 1 else if u ∈ (l.take j).map (fun p => p.1) then some (Q u) else none

end Go.Proofs.Ytcnghhlchjcdhaa.Dr
/- The reference's check of sizes and a number; its search for the next certain unit. -/
namespace Go.Proofs.Ytcnghhlchjcdhaa.Dr
open Go.RowKit Go.Sort C6

/-- the search for the next certain unit: the best one of the first i -/
def BI (N : Nat) (x : Nat → Int) (od : List Nat) (k : Nat) (M : Int) (i : Nat) (b : Int) : Prop :=
  (b = -1 ∨ ∃ j : Nat, b = (j : Int) ∧ j < N) ∧
  (T x od k ≤ x (od.getD k 0) * M → (i ≤ od.getD k 0 → b = -1 ∨ ∃ j : Nat, b = (j : Int) ∧ x j < x (od.getD k 0)) ∧ (od.getD k 0 < i → b = (od.getD k 0 : Int))) ∧
  (¬ T x od k ≤ x (od.getD k 0) * M → b = -1)
theorem BI.zero (N : Nat) (x : Nat → Int) (od : List Nat) (k : Nat) (M : Int) : BI N x od k M 0 (-1) := ⟨.inl rfl, fun _ => ⟨fun _ => .inl rfl, fun h => by omega⟩, fun _ => rfl⟩
theorem BI.skip {N : Nat} {x : Nat → Int} {od : List Nat} {k : Nat} {M : Int} {i : Nat} {b : Int} (h : BI N x od k M i b) (ho : Ord N x od) (hk : k < N) (hi : i ∈ od.take k ∨ x i * M < T x od k) : BI N x od k M (i + 1) b := by
  refine ⟨h.1, fun he => ?_, h.2.2⟩
  have hne : i ≠ od.getD k 0 := by
    rintro e
    rcases hi with hi | hi
    · rw [e] at hi; exact ho.next hk hi
    · rw [e] at hi; omega
  obtain ⟨h1, h2⟩ := h.2.1 he
  refine ⟨fun hl => h1 (Nat.le_of_succ_le hl), fun hl => h2 ?_⟩
  clear h1 h2 h
  omega
theorem BI.elig {N : Nat} {x : Nat → Int} {od : List Nat} {k : Nat} {M : Int} {i : Nat} (ho : Ord N x od) (hk : k < N) (hM : 0 ≤ M) (hi : i < N) (hn : i ∉ od.take k) (he : T x od k ≤ x i * M) : T x od k ≤ x (od.getD k 0) * M :=
  Int.le_trans he (Int.mul_le_mul_of_nonneg_right (ho.best hk hi hn).1 hM)
theorem BI.take {N : Nat} {x : Nat → Int} {od : List Nat} {k : Nat} {M : Int} {i : Nat} {b : Int} (h : BI N x od k M i b) (ho : Ord N x od) (hk : k < N) (hM : 0 ≤ M) (hi : i < N) (hn : i ∉ od.take k) (he : T x od k ≤ x i * M) (hb : b = -1 ∨ ∃ j : Nat, b = (j : Int) ∧ x j < x i) : BI N x od k M (i + 1) (i : Int) := by
  have hE := BI.elig ho hk hM hi hn he
  obtain ⟨h1, h2⟩ := h.2.1 hE
  have hbest := ho.best hk hi hn
  have hle : i ≤ od.getD k 0 := by
    by_cases e : i ≤ od.getD k 0
    · exact e
    · exfalso
      have e2 := h2 (by omega)
      rcases hb with hb | ⟨j, hb, hx⟩
      · omega
      · have : j = od.getD k 0 := by omega
        rw [this] at hx
        omega
  refine ⟨.inr ⟨i, rfl, hi⟩, fun _ => ⟨fun hl => .inr ⟨i, rfl, hbest.2 hl⟩, fun hl => ?_⟩, fun h => absurd hE h⟩
  have e : i = od.getD k 0 := by clear h1 h2 hb h; omega
  exact congrArg Int.ofNat e
theorem BI.keep {N : Nat} {x : Nat → Int} {od : List Nat} {k : Nat} {M : Int} {i j : Nat} (h : BI N x od k M i (j : Int)) (ho : Ord N x od) (hk : k < N) (hM : 0 ≤ M) (hi : i < N) (hn : i ∉ od.take k) (he : T x od k ≤ x i * M) (hb : x i ≤ x j) : BI N x od k M (i + 1) (j : Int) := by
  have hE := BI.elig ho hk hM hi hn he
  obtain ⟨h1, h2⟩ := h.2.1 hE
  refine ⟨h.1, fun _ => ⟨fun hl => h1 (by omega), fun hl => ?_⟩, fun h => absurd hE h⟩
  by_cases e : od.getD k 0 < i
  · exact h2 e
  · have e2 : i = od.getD k 0 := by omega
    rcases h1 (by omega) with h | ⟨j', h, hx⟩
    · omega
    · have : j' = j := by omega
      rw [this, ← e2] at hx
      omega
theorem BI.last {N : Nat} {x : Nat → Int} {od : List Nat} {k : Nat} {M : Int} {b : Int} (h : BI N x od k M N b) (ho : Ord N x od) (hk : k < N) : (T x od k ≤ x (od.getD k 0) * M → b = (od.getD k 0 : Int)) ∧ (¬ T x od k ≤ x (od.getD k 0) * M → b = -1) :=
  ⟨fun he => (h.2.1 he).2 (ho.get hk), h.2.2⟩
/-- which units are certain, as a row -/
def bl (od : List Nat) (k N : Nat) : List Value := (List.range N).map (fun (i : Nat) => Value.bool (decide (i ∈ od.take k)))
theorem bl_len (od : List Nat) (k N : Nat) : (bl od k N).length = N := by simp [bl]
theorem bl_zero (od : List Nat) (N : Nat) : bl od 0 N = List.replicate N (Value.bool false) := by
  apply List.ext_getElem
  · simp [bl]
  · intro i h1 h2; simp [bl]
theorem bl_at (od : List Nat) (k N i : Nat) (hi : i < N) : (bl od k N)[i]? = some (Value.bool (decide (i ∈ od.take k))) := by simp [bl, hi]
theorem bl_set (od : List Nat) (k N : Nat) (hk : k < od.length) : (bl od k N).set (od.getD k 0) (.bool true) = bl od (k + 1) N := by
  apply List.ext_getElem
  · simp [bl]
  · intro i h1 h2
    have hi : i < N := by simpa [bl] using h2
    rw [List.getElem_set]
    by_cases e : od.getD k 0 = i
    · rw [if_pos e]
      simp only [bl, List.getElem_map, List.getElem_range]
      rw [take_getD od hk, e]
      simp
    · rw [if_neg e]
      simp only [bl, List.getElem_map, List.getElem_range]
      have : (i ∈ od.take (k + 1)) = (i ∈ od.take k) := by
        rw [take_getD od hk]
        apply propext
        have e' : i ≠ od.getD k 0 := Ne.symm e
        simp only [List.mem_append, List.mem_singleton]
        exact ⟨fun h => h.elim id (fun h => absurd h e'), .inl⟩
      rw [decide_eq_decide.2 (iff_of_eq this)]
theorem infoBool : (Try.prog.info? 4).map (fun i => (i.zero, i.size, i.bytes)) = some (some (.bool false), 1, 1) := by kernel_rfl
end Go.Proofs.Ytcnghhlchjcdhaa.Dr
/- The reference's certain units. -/
namespace Go.Proofs.Ytcnghhlchjcdhaa.Dr
open Go.RowKit Go.Sort C6

def CtPost (x : Nat → Int) (od : List Nat) (m K N : Nat) (w : World) (e : Ending) (w' : World) : Prop := ∃ g, e = .returned (.tuple #[.slice (some ⟨g, 0, none⟩) N N, .int .i64 (T x od K), .int .i64 ((m : Int) - (K : Int))]) ∧ w'.ownsRow w.heap.size 4 1 (.slice (some ⟨g, 0, none⟩) N N) N (bl od K N) ∧ Below w.heap.size w w'

end Go.Proofs.Ytcnghhlchjcdhaa.Dr
/- The reference's Inclusion. -/
namespace Go.Proofs.Ytcnghhlchjcdhaa.Dr
open Go.RowKit Go.Sort C6

theorem Inc.snoc {w : World} {N : Nat} {rs : List RV} {Q : Nat → Rat} {r : RV} (h : Inc w N rs (fun u => some (Q u))) (hr : CQ 0 w r.s r.ao r.n r.ca r.bo r.m r.cb (Q N) 2) : Inc w (N + 1) (rs ++ [r]) (fun u => some (Q u)) := by
  refine ⟨by rw [List.length_append, h.1]; rfl, fun u hu q hq => ?_⟩
  by_cases e : u < N
  · rw [getD_snoc_lt _ _ _ _ (by rw [h.1]; exact e)]
    exact h.2 u e q hq
  · have e2 : u = N := by omega
    subst e2
    have e3 : (rs ++ [r]).getD u RV.nil = r := by have := getD_snoc_eq rs r RV.nil; rwa [h.1] at this
    rw [e3, ← Option.some.inj hq]
    exact hr
theorem inc_set {w : World} {N g : Nat} {rs : List RV} {P : Nat → Option Rat} {cur : Array Value} (h : Inc w N rs P) (hg : w.heap[g]? = some (.cells cur 33 (0, 0))) (j : Nat) (v : Value) : Inc (w.setCell ⟨g, j, none⟩ v) N rs P ∧ ∃ cur', (w.setCell ⟨g, j, none⟩ v).heap[g]? = some (.cells cur' 33 (0, 0)) := by
  refine ⟨⟨h.1, fun u hu q hq => ?_⟩, ⟨_, by simp [World.setCell, Array.getElem?_modify, hg]; rfl⟩⟩
  obtain ⟨h1, h2, h3, h4, h5, h6⟩ := h.2 u hu q hq
  exact ⟨h1, h2, h3, h4.setne hg (by decide), h5.setne hg (by decide), h6⟩
theorem RdN.nil (w : World) (Q : Nat → Rat) : RdN w none 0 0 Q := ⟨[], rfl, ⟨by simp, by omega, .inl ⟨rfl, fun _ => rfl⟩⟩, rfl, fun u hu => by omega⟩

end Go.Proofs.Ytcnghhlchjcdhaa.Dr
/- Lists of numbers held against each other; at most twelve raw sizes. -/
namespace Go.Proofs.Ytcnghhlchjcdhaa.Dr
open Go.RowKit Go.Sort C6

theorem Inc.at {w : World} {N : Nat} {rs : List RV} {Q : Nat → Rat} (h : Inc w N rs (fun u => some (Q u))) {i : Nat} (hi : i < N) : CQ 0 w (rs.getD i RV.nil).s (rs.getD i RV.nil).ao (rs.getD i RV.nil).n (rs.getD i RV.nil).ca (rs.getD i RV.nil).bo (rs.getD i RV.nil).m (rs.getD i RV.nil).cb (Q i) 2 := h.2 i hi _ rfl
theorem RdN.below {w w' : World} {a : Option Addr} {c N : Nat} {Q : Nat → Rat} (h : RdN w a c N Q) (b : Below w.heap.size w w') : RdN w' a c N Q := by
  obtain ⟨rs, h1, h2, h3⟩ := h
  exact ⟨rs, h1, h2.below b, h3.below b⟩
end Go.Proofs.Ytcnghhlchjcdhaa.Dr
/- Drawn regions by values, where a slot is read before the region writes it: what the slots hold at first is known. -/
namespace Go.Proofs.Ytcnghhlchjcdhaa
open Go.RowKit

section
variable {P : Program} {ops : Array Oper} {Q : Exit → Act → World → Prop} {md : Region.Mode}
theorem region_ssa2 (dsts : List Nat) (Bs : World → Prop) (E : World → World → Prop) (R : Nat → Value → World → Prop) (X : (Nat → Bool) → (Nat → Value) → World → Prop) {a : Act} {w0 : World} {F : (Nat → Value) → Act} (hF : ∀ f, putAll a dsts f = F f)
    (hb : backs md ops = true) (hd : apartDsts ops dsts = true) (hw : Bs w0) (hX : X (fun _ => false) (fun t => a.tmps.getD t undef) w0)
    (hst : ∀ i v w w', Bs w → R i v w → E w w' → R i v w') (hbs : ∀ w w', Bs w → E w w' → Bs w')
    (hstep : AllBelow (StepAt P md ops Q F Bs E R X) ops.size)
    (hdone : ∀ D f w, (∀ i, i < ops.size → D i = true) → Bs w → (∀ i, i < ops.size → R i (opval ops f i) w) → X D f w → Q .normal (F f) w) :
    wpAny P md ops Q ops.size (Array.replicate ops.size false) a w0 := by
  refine region_steps dsts (fun D f w => Bs w ∧ (∀ i, i < ops.size → D i = true → R i (opval ops f i) w) ∧ X D f w) hb ⟨hw, (fun _ _ h => by cases h), hX⟩ ?_ ?_
  · rintro i hi D f w hDi hpre hcl ⟨hB, hR, hX⟩
    rw [hF]
    have hall : ∀ k ∈ pre md ops i, k < i := by
      have h := hb
      unfold backs at h
      rw [List.all_eq_true] at h
      have h2 := h i (List.mem_range.2 hi)
      rw [List.all_eq_true] at h2
      exact fun k hk => of_decide_eq_true (h2 k hk)
    refine wpOp_mono ?_ (hstep.at i hi D f w hDi hB hR (fun k hk => ⟨hpre k hk, hR k (Nat.lt_trans (hall k hk) hi) (hpre k hk)⟩) hcl hX)
    rintro a' w' ⟨v, rfl, hv, hE, hX'⟩
    have hB' := hbs _ _ hB hE
    unfold apartDsts at hd
    rw [List.all_eq_true] at hd
    have hdi := hd i (List.mem_range.2 hi)
    have hold : ∀ j, j < ops.size → upd D i j = true → j ≠ i → R j (opval ops f j) w' := by
      intro j hj hDj hji
      refine hst _ _ _ _ hB (hR j hj ?_) hE
      unfold upd at hDj
      have : Nat.beq j i = false := by rw [Bool.eq_false_iff]; exact fun e => hji (Nat.eq_of_beq_eq_true e)
      simpa [this] using hDj
    unfold updv at hX'
    unfold opdv at hv
    cases hdst : (ops[i]?).bind (·.dst) with
    | none =>
      rw [hdst] at hv hX'
      refine ⟨f, by rw [← hF]; rfl, hB', ?_, hX'⟩
      intro j hj hDj
      by_cases hji : j = i
      · subst hji
        have : opval ops f j = undef := by unfold opval; rw [hdst]
        rw [this]; exact hv
      · exact hold j hj hDj hji
    | some t =>
      rw [hdst] at hv hdi hX'
      simp only [Bool.and_eq_true, List.all_eq_true, Bool.or_eq_true, beq_iff_eq] at hdi
      refine ⟨setf f t v, by rw [← hF]; exact putAll_put (by simpa using hdi.1) v, hB', ?_, hX'⟩
      intro j hj hDj
      by_cases hji : j = i
      · subst hji
        have : opval ops (setf f t v) j = v := by unfold opval; rw [hdst]; simp [setf]
        rw [this]; exact hv
      · have hne := (hdi.2 j (List.mem_range.2 hj)).resolve_left hji
        have : opval ops (setf f t v) j = opval ops f j := by
          unfold opval
          cases hdj : (ops[j]?).bind (·.dst) with
          | none => rfl
          | some u =>
            rw [hdj] at hne
            have hut : u ≠ t := fun e => by subst e; simp at hne
            have : Nat.beq u t = false := by rw [Bool.eq_false_iff]; exact fun e => hut (Nat.eq_of_beq_eq_true e)
            simp [setf, this]
        rw [this]
        exact hold j hj hDj hji
  · rintro D f w hD ⟨hB, hR, hX⟩
    rw [hF]
    exact hdone D f w hD hB (fun i hi => hR i hi (hD i hi)) hX
end
end Go.Proofs.Ytcnghhlchjcdhaa
/- Sizes of a tape, and a number of units. -/
namespace Go.Proofs.Ytcnghhlchjcdhaa.Dr
open Go.RowKit Go.Sort C6 SN

/-- all blocks but B and the row's own are as they were -/
def EB (B : Nat) (v : Value) (w w' : World) : Prop := w'.os = w.os ∧ w'.tape = w.tape ∧ w'.output = w.output ∧ w.heap.size ≤ w'.heap.size ∧ ∀ b, b < w.heap.size → b ≠ B → v.ownBlock ≠ some b → w'.heap[b]? = w.heap[b]?
theorem EB.refl (B : Nat) (v : Value) (w : World) : EB B v w w := ⟨rfl, rfl, rfl, Nat.le_refl _, fun _ _ _ _ => rfl⟩
theorem EB.trans {B : Nat} {v : Value} {a b c : World} (h : EB B v a b) (k : EB B v b c) : EB B v a c :=
  ⟨k.1.trans h.1, k.2.1.trans h.2.1, k.2.2.1.trans h.2.2.1, Nat.le_trans h.2.2.2.1 k.2.2.2.1, fun x h1 h2 h3 => (k.2.2.2.2 x (Nat.lt_of_lt_of_le h1 h.2.2.2.1) h2 h3).trans (h.2.2.2.2 x h1 h2 h3)⟩
theorem EB.of_below {B : Nat} {v : Value} {w w' : World} (h : Below w.heap.size w w') : EB B v w w' := ⟨h.os, h.tape, h.output, h.size, fun b hb _ _ => h.block b hb⟩
theorem EB.of_gb {B : Nat} {v : Value} {w w' : World} (h : w.grownBy w' (some B)) : EB B v w w' := ⟨h.os, h.tape, h.output, h.size, fun b hb hn _ => h.block b hb (fun e => hn (Option.some.inj e))⟩
theorem EB.of_row {B : Nat} {v : Value} {w w' : World} (h : w.grownBy w' v.ownBlock) : EB B v w w' := ⟨h.os, h.tape, h.output, h.size, fun b hb _ hn => h.block b hb (fun e => hn e.symm)⟩
theorem rdv_eb {w w' : World} {B : Nat} {v : Value} {ao : Option Addr} {cap : Nat} {vs : List Value} (h : RdV w ao cap vs) (hb : 0 < vs.length → ∀ b o, ao = some ⟨b, o, none⟩ → b < B) (hv : ∀ k, v.ownBlock = some k → B < k) (e : EB B v w w') : RdV w' ao cap vs := by
  refine ⟨h.1, h.2.1, ?_⟩
  rcases h.2.2 with hn | ⟨bk, o, e0, hc⟩
  · exact .inl hn
  · refine .inr ⟨bk, o, e0, fun i v' hi => ?_⟩
    have hl : 0 < vs.length := by have := (List.getElem?_eq_some_iff.1 hi).1; omega
    have h1 := hc i v' hi
    have hlt := World.block_lt_of_cell? _ _ h1
    have hB := hb hl bk o e0
    exact (World.cell?_of_block (a := ⟨bk, o + i, none⟩) (e.2.2.2.2 bk hlt (by omega) (fun q => by have := hv bk q; omega))).trans h1
theorem row7 {w : World} {g : Nat} {t : TypeId} (h : w.heap[g]? = some (.cells #[.int .i64 1, .int .i64 2, .int .i64 3, .int .i64 5, .int .i64 10, .int .i64 50, .int .i64 400] t (0, 0))) {i : Nat} (hi : i < 7) : ∃ x : Int, w.cell? ⟨g, i, none⟩ = some (.int .i64 x) ∧ 1 ≤ x ∧ x ≤ 400 := by
  have : i = 0 ∨ i = 1 ∨ i = 2 ∨ i = 3 ∨ i = 4 ∨ i = 5 ∨ i = 6 := by omega
  rcases this with rfl | rfl | rfl | rfl | rfl | rfl | rfl
  · exact ⟨1, by simp [World.cell?, h], by omega⟩
  · exact ⟨2, by simp [World.cell?, h], by omega⟩
  · exact ⟨3, by simp [World.cell?, h], by omega⟩
  · exact ⟨5, by simp [World.cell?, h], by omega⟩
  · exact ⟨10, by simp [World.cell?, h], by omega⟩
  · exact ⟨50, by simp [World.cell?, h], by omega⟩
  · exact ⟨400, by simp [World.cell?, h], by omega⟩
/-- the row with one more size -/
def RowAt (M n : Nat) (xs : List Int) (v : Value) (w : World) : Prop := ∃ a c y, v = .slice a (n + 1) c ∧ 1 ≤ y ∧ y ≤ 402 ∧ w.ownsRow M 2 1 (.slice a (n + 1) c) (n + 1) (intz (xs ++ [y]))
def XM (B : Nat) (ao : Option Addr) (l cap i M : Nat) (v : Value) (n : Nat) (xs : List Int) (d3 d7 d10 d11 : Bool) (f20 f4 : Value) (w : World) : Prop :=
  Tap w B ao l cap (bif d7 then i + 1 + 1 else bif d3 then i + 1 else i) ∧ (d10 = false → w.ownsRow M 2 1 v n (intz xs)) ∧ (d10 = true → RowAt M n xs f20 w) ∧ (d11 = true → RowAt M n xs f4 w) ∧ (d11 = false → f4 = v)
theorem XM.below {B : Nat} {ao : Option Addr} {l cap i M : Nat} {v : Value} {n : Nat} {xs : List Int} {d3 d7 d10 d11 : Bool} {f20 f4 : Value} {w w' : World} (h : XM B ao l cap i M v n xs d3 d7 d10 d11 f20 f4 w) (b : Below w.heap.size w w') : XM B ao l cap i M v n xs d3 d7 d10 d11 f20 f4 w' := by
  obtain ⟨h1, h2, h3, h4, h5⟩ := h
  refine ⟨h1.keep b, fun h => row_below (h2 h) b, fun h => ?_, fun h => ?_, h5⟩
  · obtain ⟨a, c, y, e, y1, y2, hr⟩ := h3 h
    exact ⟨a, c, y, e, y1, y2, row_below hr b⟩
  · obtain ⟨a, c, y, e, y1, y2, hr⟩ := h4 h
    exact ⟨a, c, y, e, y1, y2, row_below hr b⟩
theorem infoI64 : (Try.prog.info? 2).map (fun i => (i.zero, i.size, i.bytes)) = some (some (.int .i64 0), 1, 8) := by kernel_rfl
/-- what made gives -/
def MadePost (B : Nat) (to' : Option Addr) (l tc i : Nat) (w : World) (e : Ending) (w' : World) : Prop := ∃ a c xs k, e = .returned (.tuple #[.slice a xs.length c, .int .i64 (k : Int)]) ∧ 1 ≤ xs.length ∧ xs.length ≤ 8 ∧ (∀ x ∈ xs, 1 ≤ x ∧ x ≤ 402) ∧ 1 ≤ k ∧ k ≤ xs.length ∧ RdZ w' a c xs ∧ w.grownBy w' (some B) ∧ ∃ j, j ≤ i + 20 ∧ Tap w' B to' l tc j ∧ (0 < xs.length → ∀ b o, a = some ⟨b, o, none⟩ → b ≠ B)

def PM (W : World) (B : Nat) (v : Value) : List (Value → World → Prop) := [fun u _ => u = v, fun u w => ∃ g, u = .slice (some ⟨g, 0, none⟩) 7 7 ∧ W.heap.size ≤ g ∧ w.heap[g]? = some (.cells #[.int .i64 1, .int .i64 2, .int .i64 3, .int .i64 5, .int .i64 10, .int .i64 50, .int .i64 400] 3 (0, 0)), fun u _ => u = .pointer (some ⟨B, 0, none⟩), fun u _ => ∃ q : Nat, q < 7 ∧ u = .int .i64 (q : Int), fun u w => ∃ g q x, u = .pointer (some ⟨g, q, none⟩) ∧ W.heap.size ≤ g ∧ w.cell? ⟨g, q, none⟩ = some (.int .i64 x) ∧ 1 ≤ x ∧ x ≤ 400, fun u _ => ∃ x, u = .int .i64 x ∧ 1 ≤ x ∧ x ≤ 400, fun u _ => u = .pointer (some ⟨B, 0, none⟩), fun u _ => ∃ q : Nat, q < 3 ∧ u = .int .i64 (q : Int), fun u _ => ∃ y, u = .int .i64 y ∧ 1 ≤ y ∧ y ≤ 402, fun u w => ∃ g y, u = .slice (some ⟨g, 0, none⟩) 1 1 ∧ W.heap.size ≤ g ∧ w.heap[g]? = some (.cells #[.int .i64 y] 2 (0, 0)) ∧ 1 ≤ y ∧ y ≤ 402, fun _ _ => True, fun _ _ => True]
theorem PM.st {W : World} {B : Nat} {v : Value} (hB : B < W.heap.size) (hv : ∀ k, v.ownBlock = some k → k < W.heap.size) : ∀ p ∈ PM W B v, ∀ u w w', p u w → EB B v w w' → p u w' := by
  have blk : ∀ {g : Nat} {w w' : World}, W.heap.size ≤ g → g < w.heap.size → EB B v w w' → w'.heap[g]? = w.heap[g]? := fun hg hl e => e.2.2.2.2 _ hl (by omega) (fun q => by have := hv _ q; omega)
  intro p hp
  unfold PM at hp
  simp only [List.mem_cons, List.not_mem_nil, or_false] at hp
  rcases hp with rfl | rfl | rfl | rfl | rfl | rfl | rfl | rfl | rfl | rfl | rfl | rfl
  · intro u w w' h _; exact h
  · rintro u w w' ⟨g, h1, h2, h3⟩ e
    exact ⟨g, h1, h2, (blk h2 (Array.getElem?_eq_some_iff.1 h3).1 e).trans h3⟩
  · intro u w w' h _; exact h
  · intro u w w' h _; exact h
  · rintro u w w' ⟨g, q, x, h1, h2, h3, h4⟩ e
    exact ⟨g, q, x, h1, h2, (World.cell?_of_block (a := ⟨g, q, none⟩) (blk h2 (World.block_lt_of_cell? _ _ h3) e)).trans h3, h4⟩
  · intro u w w' h _; exact h
  · intro u w w' h _; exact h
  · intro u w w' h _; exact h
  · intro u w w' h _; exact h
  · rintro u w w' ⟨g, y, h1, h2, h3, h4⟩ e
    exact ⟨g, y, h1, h2, (blk h2 (Array.getElem?_eq_some_iff.1 h3).1 e).trans h3, h4⟩
  · intro u w w' h _; exact h
  · intro u w w' h _; exact h
def LsE (l : List (Value → World → Prop)) (i : Nat) (v : Value) (w : World) : Prop := (l.getD i (fun _ _ => True)) v w
theorem LsE.ext {E : World → World → Prop} {l : List (Value → World → Prop)} (h : ∀ p ∈ l, ∀ u w w', p u w → E w w' → p u w') (i : Nat) (v : Value) (w w' : World) (hr : LsE l i v w) (hE : E w w') : LsE l i v w' := by
  unfold LsE at hr ⊢
  rw [List.getD] at hr ⊢
  cases hg : l[i]? with
  | none => trivial
  | some p =>
    rw [hg] at hr
    exact h p (List.mem_of_getElem? hg) v w w' hr hE

end Go.Proofs.Ytcnghhlchjcdhaa.Dr
