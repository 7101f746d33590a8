import Derived.Test.YtmhjimcdiglpcaaGreatPows2
import Derived.Test.YtmhjimcdiglpcaaGreatRat10
import Derived.Deep.AppendLies
import Derived.Test.YtmhjimcdiglpcaaGreatRat5
/- Lists of numbers in memory, as []Ratio holds them. -/
namespace Go.Proofs.YtmhjimcdiglpcaaGreat
open Go.RowKit

/-- one number of a list: the cells of its struct -/
structure RV where
  s : Bool
  ao : Option Addr
  n : Nat
  ca : Nat
  bo : Option Addr
  m : Nat
  cb : Nat
def RV.vals (r : RV) : List Value := [.bool r.s, .slice r.ao r.n r.ca, .slice r.bo r.m r.cb]
def RV.v (r : RV) : Value := .agg #[.bool r.s, .slice r.ao r.n r.ca, .slice r.bo r.m r.cb]
def RV.nil : RV := ⟨false, none, 0, 0, none, 0, 0⟩
def rvs (rs : List RV) : List Value := rs.flatMap RV.vals
/-- the three cells at an address -/
def At3 (w : World) (b o : Nat) (r : RV) : Prop :=
  w.cell? ⟨b, o, none⟩ = some (.bool r.s) ∧ w.cell? ⟨b, o + 1, none⟩ = some (.slice r.ao r.n r.ca) ∧ w.cell? ⟨b, o + 2, none⟩ = some (.slice r.bo r.m r.cb)
/-- the slice at ao, of capacity cap, reads the numbers rs -/
def RdR (w : World) (ao : Option Addr) (cap : Nat) (rs : List RV) : Prop :=
  rs.length ≤ cap ∧ cap ≤ 9223372036854775807 ∧
    ((rs = [] ∧ (ao = none → cap = 0)) ∨ ∃ b o, ao = some ⟨b, o, none⟩ ∧ ∀ i, i < rs.length → At3 w b (o + i * 3) (rs.getD i RV.nil))
theorem At3.below {w w' : World} {b o : Nat} {r : RV} (h : At3 w b o r) (g : Below w.heap.size w w') : At3 w' b o r := by
  have lt : b < w.heap.size := by
    have := h.1
    unfold World.cell? at this
    by_cases hb : b < w.heap.size
    · exact hb
    · simp [Array.getElem?_eq_none (Nat.le_of_not_lt hb)] at this
  exact ⟨(g.cell (p := ⟨b, o, none⟩) lt).trans h.1, (g.cell (p := ⟨b, o + 1, none⟩) lt).trans h.2.1, (g.cell (p := ⟨b, o + 2, none⟩) lt).trans h.2.2⟩
theorem RdR.below {w w' : World} {ao : Option Addr} {cap : Nat} {rs : List RV} (h : RdR w ao cap rs) (g : Below w.heap.size w w') : RdR w' ao cap rs := by
  obtain ⟨h1, h2, h3⟩ := h
  refine ⟨h1, h2, ?_⟩
  rcases h3 with h3 | ⟨b, o, rfl, h3⟩
  · exact .inl h3
  · exact .inr ⟨b, o, rfl, fun i hi => (h3 i hi).below g⟩
theorem RdR.take {w : World} {ao : Option Addr} {cap : Nat} {rs : List RV} (h : RdR w ao cap rs) (k : Nat) : RdR w ao cap (rs.take k) := by
  obtain ⟨h1, h2, h3⟩ := h
  refine ⟨by rw [List.length_take]; omega, h2, ?_⟩
  rcases h3 with ⟨rfl, h3⟩ | ⟨b, o, rfl, h3⟩
  · exact .inl ⟨by simp, h3⟩
  · refine .inr ⟨b, o, rfl, fun i hi => ?_⟩
    rw [List.length_take] at hi
    have := h3 i (by omega)
    rwa [show (rs.take k).getD i RV.nil = rs.getD i RV.nil by simp [List.getD, show i < k by omega]]
theorem RdR.at {w : World} {ao : Option Addr} {cap : Nat} {rs : List RV} (h : RdR w ao cap rs) (hn : 0 < rs.length) : ∃ b o, ao = some ⟨b, o, none⟩ ∧ ∀ i, i < rs.length → At3 w b (o + i * 3) (rs.getD i RV.nil) := by
  rcases h.2.2 with ⟨rfl, _⟩ | h
  · simp at hn
  · exact h
theorem rvs_length (rs : List RV) : (rvs rs).length = rs.length * 3 := by
  induction rs with
  | nil => rfl
  | cons r rs ih =>
    show (RV.vals r ++ rvs rs).length = (rs.length + 1) * 3
    rw [List.length_append, ih]
    simp [RV.vals]; omega
theorem rvs_append (rs : List RV) (r : RV) : rvs (rs ++ [r]) = rvs rs ++ [.bool r.s, .slice r.ao r.n r.ca, .slice r.bo r.m r.cb] := by simp [rvs, RV.vals]
theorem rvs_at (rs : List RV) (i : Nat) (hi : i < rs.length) : (rvs rs)[i * 3]? = some (.bool (rs.getD i RV.nil).s) ∧ (rvs rs)[i * 3 + 1]? = some (.slice (rs.getD i RV.nil).ao (rs.getD i RV.nil).n (rs.getD i RV.nil).ca) ∧ (rvs rs)[i * 3 + 2]? = some (.slice (rs.getD i RV.nil).bo (rs.getD i RV.nil).m (rs.getD i RV.nil).cb) := by
  induction rs generalizing i with
  | nil => simp at hi
  | cons r rs ih =>
    cases i with
    | zero => simp [rvs, RV.vals]
    | succ i =>
      have := ih i (by simpa using hi)
      have e : ∀ j, (rvs (r :: rs))[(i + 1) * 3 + j]? = (rvs rs)[i * 3 + j]? := fun j => by
        show (RV.vals r ++ rvs rs)[(i + 1) * 3 + j]? = _
        rw [List.getElem?_append_right (by simp [RV.vals]; omega)]
        congr 1
        simp [RV.vals]; omega
      have e0 := e 0
      simp only [Nat.add_zero] at e0
      rw [e0, e 1, e 2]
      simpa using this
/-- a row of the function's own reads its numbers -/
theorem RdR.of_row {w : World} {base n : Nat} {v : Value} {rs : List RV} (h : w.ownsRow base 35 3 v n (rvs rs)) : ∃ ao cap, v = .slice ao rs.length cap ∧ RdR w ao cap rs := by
  have hlen : rs.length = n := by have := h.1; rw [rvs_length] at this; omega
  subst hlen
  rcases h.2 with ⟨rfl, h0⟩ | ⟨g, cap, cur, rfl, _, _, hn, hc, _, _⟩
  · have : rs = [] := List.eq_nil_of_length_eq_zero h0
    subst this
    exact ⟨none, 0, rfl, by simp, by omega, .inl ⟨rfl, fun _ => rfl⟩⟩
  · refine ⟨_, cap, rfl, hn, by unfold maxLen at hc; omega, .inr ⟨g, 0, rfl, fun i hi => ?_⟩⟩
    obtain ⟨a0, a1, a2⟩ := rvs_at rs i hi
    refine ⟨?_, ?_, ?_⟩
    · rw [Nat.zero_add, h.cellAt (i * 3) (by omega), a0]
    · rw [Nat.zero_add, h.cellAt (i * 3 + 1) (by omega), a1]
    · rw [Nat.zero_add, h.cellAt (i * 3 + 2) (by omega), a2]
end Go.Proofs.YtmhjimcdiglpcaaGreat
/- make's Smalls: the first thirty numbers of a list, each made small. -/
namespace Go.Proofs.YtmhjimcdiglpcaaGreat
open Go.RowKit

/-- a number whose parts read any limbs -/
def Raw (w : World) (r : RV) : Prop := ∃ xs ys, r.n = xs.length ∧ r.m = ys.length ∧ Rd w r.ao r.ca xs ∧ Rd w r.bo r.cb ys
/-- a number that stands for q, of two limbs -/
def Is (w : World) (r : RV) (q : Rat) : Prop := RQ w r.s r.ao r.n r.ca r.bo r.m r.cb q 2
theorem Raw.below {w w' : World} {r : RV} (h : Raw w r) (g : Below w.heap.size w w') : Raw w' r := by
  obtain ⟨xs, ys, h1, h2, h3, h4⟩ := h
  exact ⟨xs, ys, h1, h2, h3.below g, h4.below g⟩
theorem Is.below {w w' : World} {r : RV} {q : Rat} (h : Is w r q) (g : Below w.heap.size w w') : Is w' r q := RQ.below h g
theorem infoRatio : (Tryz.prog.info? 35).map (fun i => (i.zero, i.size, i.bytes)) = some (some (.agg #[.bool false, .slice none 0 0, .slice none 0 0]), 3, 56) := by kernel_rfl
theorem info_partsr {t : TypeId} {z : Value} {s b : Nat} (h : (Tryz.prog.info? t).map (fun i => (i.zero, i.size, i.bytes)) = some (some z, s, b)) : ∃ i, Tryz.prog.info? t = some i ∧ i.zero = some z ∧ i.size = s ∧ i.bytes = b := by
  obtain ⟨i, hi, he⟩ := Option.map_eq_some_iff.1 h
  simp at he
  exact ⟨i, hi, he.1, he.2.1, he.2.2⟩
theorem three_cell (w : World) (u v x : Value) (t : TypeId) : ∀ j y, [u, v, x][j]? = some y → (w.alloc (.cells #[u, v, x] t)).cell? ((⟨w.heap.size, 0, none⟩ : Addr).add j) = some y := by
  intro j y hj
  rw [Addr.add_lit]
  match j with
  | 0 => cases hj; exact World.cell?_alloc_mark w _ _ (0, 0) 0
  | 1 => cases hj; exact World.cell?_alloc_mark w _ _ (0, 0) 1
  | 2 => cases hj; exact World.cell?_alloc_mark w _ _ (0, 0) 2
  | j + 3 => cases hj
theorem below_grown {w w' : World} (h : Below w.heap.size w w') : w.grownBy w' none := ⟨h.os, h.tape, h.output, h.size, fun k hk _ => h.block k hk⟩
theorem rows_below {w w' : World} {base n : Nat} {t : TypeId} {v : Value} {xs : List Value} {B : Nat} (h : w.ownsRow base t 3 v n xs) (hB : B ≤ base) (hBw : B ≤ w.heap.size) (g : w.grownBy w' v.ownBlock) : Below B w w' :=
  (Below.refl _ _).grown g hBw (fun k e => by have := h.lt k e; omega)
end Go.Proofs.YtmhjimcdiglpcaaGreat
/- The sum of a list: the code's, with a closure over the total, and the reference's, by a loop. -/
namespace Go.Proofs.YtmhjimcdiglpcaaGreat
open Go.RowKit

/-- the sum of the numbers of a list -/
def tot (f : RV → Rat) : List RV → Rat
  | [] => 0
  | r :: rs => f r + tot f rs
theorem tot_snoc (f : RV → Rat) (rs : List RV) (r : RV) : tot f (rs ++ [r]) = tot f rs + f r := by
  induction rs with
  | nil => simp [tot, Rat.add_zero, Rat.zero_add]
  | cons a rs ih => simp [tot, ih, Rat.add_assoc]
theorem tot_reverse (f : RV → Rat) (rs : List RV) : tot f rs.reverse = tot f rs := by
  induction rs with
  | nil => rfl
  | cons a rs ih => rw [List.reverse_cons, tot_snoc, ih, tot, Rat.add_comm]
theorem tot_take (f : RV → Rat) (rs : List RV) (i : Nat) (hi : i < rs.length) : tot f (rs.take (i + 1)) = tot f (rs.take i) + f (rs.getD i RV.nil) := by
  have e : rs.take (i + 1) = rs.take i ++ [rs.getD i RV.nil] := by
    rw [List.take_add_one, List.getElem?_eq_getElem hi]
    simp [List.getD, hi]
  rw [e, tot_snoc]
/-- limbs of a sum -/
def kk (i : Nat) : Nat := 3 * 2 ^ i - 1
theorem kk_zero : kk 0 = 2 := rfl
theorem kk_succ (i : Nat) : kk (i + 1) = kk i + kk i + 1 := by
  unfold kk
  have : 0 < 2 ^ i := Nat.two_pow_pos i
  rw [Nat.pow_succ]; omega
theorem kk_two (i : Nat) : 2 ≤ kk i := by
  unfold kk
  have : 0 < 2 ^ i := Nat.two_pow_pos i
  omega
theorem kk_le {i : Nat} (hi : i ≤ 30) : kk i ≤ 3221225471 := by
  unfold kk
  have : 2 ^ i ≤ 2 ^ 30 := Nat.pow_le_pow_right (by omega) hi
  have e : (2 : Nat) ^ 30 = 1073741824 := rfl
  omega
/-- the box at g holds the number q -/
def TotAt (w : World) (g : Nat) (q : Rat) (k : Nat) : Prop :=
  ∃ s a n c o m d, w.heap[g]? = some (.cells #[.bool s, .slice a n c, .slice o m d] 35 (0, 0)) ∧ CQ (g + 1) w s a n c o m d q k
theorem TotAt.below {w w' : World} {g : Nat} {q : Rat} {k : Nat} (h : TotAt w g q k) (b : Below w.heap.size w w') : TotAt w' g q k := by
  obtain ⟨s, a, n, c, o, m, d, h1, h2⟩ := h
  exact ⟨s, a, n, c, o, m, d, carry h1 b, h2.below b⟩
theorem TotAt.lt {w : World} {g : Nat} {q : Rat} {k : Nat} (h : TotAt w g q k) : g < w.heap.size := by
  obtain ⟨s, a, n, c, o, m, d, h1, h2⟩ := h
  exact (Array.getElem?_eq_some_iff.1 h1).1

end Go.Proofs.YtmhjimcdiglpcaaGreat
