import Derived.Test.YtmhjimcdiglpcaaGreatLists
import Derived.Test.YtmhjimcdiglpcaaGreatSmpAw
import Derived.Test.YtmhjimcdiglpcaaGreatRat9
import Derived.Test.YtmhjimcdiglpcaaGreatRat11
import Derived.Test.YtmhjimcdiglpcaaGreatInts10
/- Lists of numbers by their values: their sum by the code and by the reference, for any limbs. -/
namespace Go.Proofs.YtmhjimcdiglpcaaGreat
open Go.RowKit

/-- a number of a list stands for q, of k limbs -/
def IsK (w : World) (r : RV) (q : Rat) (k : Nat) : Prop := RQ w r.s r.ao r.n r.ca r.bo r.m r.cb q k
theorem IsK.below {w w' : World} {r : RV} {q : Rat} {k : Nat} (h : IsK w r q k) (g : Below w.heap.size w w') : IsK w' r q k := RQ.below h g
/-- the numbers stand for qs -/
def Ls (w : World) (rs : List RV) (qs : List Rat) (k : Nat) : Prop := rs.length = qs.length ∧ ∀ i, i < rs.length → IsK w (rs.getD i RV.nil) (qs.getD i 0) k
theorem Ls.below {w w' : World} {rs : List RV} {qs : List Rat} {k : Nat} (h : Ls w rs qs k) (g : Below w.heap.size w w') : Ls w' rs qs k := ⟨h.1, fun i hi => (h.2 i hi).below g⟩
theorem getD_snoc_lt {α : Type} (l : List α) (x d : α) (i : Nat) (hi : i < l.length) : (l ++ [x]).getD i d = l.getD i d := by
  simp [List.getD, List.getElem?_append_left hi]
theorem getD_snoc_eq {α : Type} (l : List α) (x d : α) : (l ++ [x]).getD l.length d = x := by
  simp [List.getD]
theorem Ls.snoc {w : World} {rs : List RV} {qs : List Rat} {k : Nat} {r : RV} {q : Rat} (h : Ls w rs qs k) (hr : IsK w r q k) : Ls w (rs ++ [r]) (qs ++ [q]) k := by
  refine ⟨by simp [h.1], fun i hi => ?_⟩
  by_cases e : i < rs.length
  · rw [getD_snoc_lt _ _ _ _ e, getD_snoc_lt _ _ _ _ (by rw [← h.1]; exact e)]
    exact h.2 i e
  · have e2 : i = rs.length := by simp at hi; omega
    rw [e2, getD_snoc_eq, h.1, getD_snoc_eq]
    exact hr
theorem Ls.of_all {w : World} {us : List RV} (h : ∀ u ∈ us, ∃ q, Is w u q) : ∃ qs, Ls w us qs 2 := by
  induction us with
  | nil => exact ⟨[], rfl, fun i hi => by simp at hi⟩
  | cons u us ih =>
    obtain ⟨qs, h1, h2⟩ := ih (fun v hv => h v (List.mem_cons_of_mem _ hv))
    obtain ⟨q, hq⟩ := h u (List.mem_cons_self)
    refine ⟨q :: qs, by simp [h1], fun i hi => ?_⟩
    cases i with
    | zero => exact hq
    | succ i => simpa [List.getD] using h2 i (by simpa using hi)
def qsum : List Rat → Rat
  | [] => 0
  | q :: qs => q + qsum qs
theorem qsum_snoc (qs : List Rat) (q : Rat) : qsum (qs ++ [q]) = qsum qs + q := by
  induction qs with
  | nil => simp [qsum, Rat.add_zero, Rat.zero_add]
  | cons a qs ih => simp [qsum, ih, Rat.add_assoc]
theorem take_snoc {α : Type} (l : List α) (d : α) (i : Nat) (hi : i < l.length) : l.take (i + 1) = l.take i ++ [l.getD i d] := by
  rw [List.take_add_one, List.getElem?_eq_getElem hi]
  simp [List.getD, hi]
theorem qsum_take (qs : List Rat) (i : Nat) (hi : i < qs.length) : qsum (qs.take (i + 1)) = qsum (qs.take i) + qs.getD i 0 := by
  rw [take_snoc qs 0 i hi, qsum_snoc]
/-- limbs of a sum of numbers of k limbs -/
def kq (k i : Nat) : Nat := (k + 1) * 2 ^ i - 1
theorem kq_zero (k : Nat) : kq k 0 = k := by simp [kq]
theorem kq_succ (k i : Nat) : kq k (i + 1) = kq k i + kq k i + 1 := by
  unfold kq
  have : 0 < (k + 1) * 2 ^ i := Nat.mul_pos (by omega) (Nat.two_pow_pos i)
  rw [Nat.pow_succ, ← Nat.mul_assoc]; omega
theorem kq_ge (k i : Nat) : k ≤ kq k i := by
  unfold kq
  have : (k + 1) * 1 ≤ (k + 1) * 2 ^ i := Nat.mul_le_mul_left _ (Nat.two_pow_pos i)
  omega
theorem kq_le {k i : Nat} (hk : k ≤ 1000) (hi : i ≤ 12) : kq k i ≤ 4100096 := by
  unfold kq
  have h1 : 2 ^ i ≤ 2 ^ 12 := Nat.pow_le_pow_right (by omega) hi
  have h2 : (k + 1) * 2 ^ i ≤ 1001 * 2 ^ 12 := Nat.mul_le_mul (by omega) h1
  have e : (2 : Nat) ^ 12 = 4096 := rfl
  omega

end Go.Proofs.YtmhjimcdiglpcaaGreat
/- Rows of numbers of one's own: their limbs lie in other blocks. What Estimate gives. -/
namespace Go.Proofs.YtmhjimcdiglpcaaGreat
open Go.RowKit

/-- a number's limbs lie in no block of a row of numbers -/
theorem Fr.keepRow3 {B base n : Nat} {w w' : World} {ao : Option Addr} {ca : Nat} {xs : List Nat} {v : Value} {vs : List Value} (h : Fr B w ao ca xs) (ho : w.ownsRow base 35 3 v n vs) (g : w.grownBy w' v.ownBlock) : Fr B w' ao ca xs := by
  obtain ⟨h1, h2, h3, h4⟩ := h
  refine ⟨h1, h2, h3, ?_⟩
  rcases h4 with h4 | ⟨b, e, hb, hw⟩
  · exact .inl h4
  · refine .inr ⟨b, e, hb, hw.grown g ?_⟩
    rcases ho.2 with ⟨rfl, _⟩ | ⟨k, cap, cur, rfl, _, hk, _⟩
    · intro q; cases q
    · intro q
      have : b = k := Option.some.inj q
      subst this
      obtain ⟨cur', h5, _⟩ := hw
      rw [h5] at hk
      cases hk
theorem CQ.keepRow3 {B base l : Nat} {w w' : World} {v : Value} {vs : List Value} {s : Bool} {ao : Option Addr} {n ca : Nat} {bo : Option Addr} {m cb : Nat} {q : Rat} {k : Nat} (h : CQ B w s ao n ca bo m cb q k) (ho : w.ownsRow base 35 3 v l vs) (g : w.grownBy w' v.ownBlock) : CQ B w' s ao n ca bo m cb q k := by
  obtain ⟨h1, h2, h3, h4, h5, h6⟩ := h
  exact ⟨h1, h2, h3, h4.keepRow3 ho g, h5.keepRow3 ho g, h6⟩
/-- the numbers of a row are qs, in canonical form -/
def Lc (Bs : Nat) (w : World) (rs : List RV) (qs : List Rat) (k : Nat) : Prop := rs.length = qs.length ∧ ∀ i, i < rs.length → CQ Bs w (rs.getD i RV.nil).s (rs.getD i RV.nil).ao (rs.getD i RV.nil).n (rs.getD i RV.nil).ca (rs.getD i RV.nil).bo (rs.getD i RV.nil).m (rs.getD i RV.nil).cb (qs.getD i 0) k
theorem Lc.nil (Bs : Nat) (w : World) (k : Nat) : Lc Bs w [] [] k := ⟨rfl, fun i hi => by simp at hi⟩
theorem Lc.ls {Bs : Nat} {w : World} {rs : List RV} {qs : List Rat} {k : Nat} (h : Lc Bs w rs qs k) : Ls w rs qs k := ⟨h.1, fun i hi => (h.2 i hi).rq⟩
theorem Lc.below {Bs : Nat} {w w' : World} {rs : List RV} {qs : List Rat} {k : Nat} (h : Lc Bs w rs qs k) (g : Below w.heap.size w w') : Lc Bs w' rs qs k := ⟨h.1, fun i hi => (h.2 i hi).below g⟩
theorem Lc.keepRow {Bs base l : Nat} {w w' : World} {v : Value} {vs : List Value} {rs : List RV} {qs : List Rat} {k : Nat} (h : Lc Bs w rs qs k) (ho : w.ownsRow base 35 3 v l vs) (g : w.grownBy w' v.ownBlock) : Lc Bs w' rs qs k := ⟨h.1, fun i hi => (h.2 i hi).keepRow3 ho g⟩
theorem Lc.snoc {Bs : Nat} {w : World} {rs : List RV} {qs : List Rat} {k : Nat} {r : RV} {q : Rat} (h : Lc Bs w rs qs k) (hr : CQ Bs w r.s r.ao r.n r.ca r.bo r.m r.cb q k) : Lc Bs w (rs ++ [r]) (qs ++ [q]) k := by
  refine ⟨by simp [h.1], fun i hi => ?_⟩
  by_cases e : i < rs.length
  · rw [getD_snoc_lt _ _ _ _ e, getD_snoc_lt _ _ _ _ (by rw [← h.1]; exact e)]
    exact h.2 i e
  · have e2 : i = rs.length := by simp at hi; omega
    rw [e2, getD_snoc_eq, h.1, getD_snoc_eq]
    exact hr

theorem Lc.gb {Bs : Nat} {w w' : World} {rs : List RV} {qs : List Rat} {k B : Nat} (h : Lc Bs w rs qs k) (hB : B < Bs) (g : w.grownBy w' (some B)) : Lc Bs w' rs qs k := ⟨h.1, fun i hi => by
  obtain ⟨h1, h2, h3, h4, h5, h6⟩ := h.2 i hi
  have key : ∀ {ao : Option Addr} {ca : Nat} {xs : List Nat}, Fr Bs w ao ca xs → Fr Bs w' ao ca xs := fun hf => hf.grown g (fun a e q => by
    rcases hf.2.2.2 with ⟨h, _⟩ | ⟨b, h, hb, _⟩
    · rw [e] at h; cases h
    · rw [e] at h; cases h
      have := Option.some.inj q
      simp at this; omega)
  exact ⟨h1, h2, h3, key h4, key h5, h6⟩⟩
theorem Lc.mono {Bs Bs' : Nat} {w : World} {rs : List RV} {qs : List Rat} {k : Nat} (h : Lc Bs w rs qs k) (hB : Bs' ≤ Bs) : Lc Bs' w rs qs k := ⟨h.1, fun i hi => (h.2 i hi).mono hB⟩

/-- a probability: above 0 and at most 1 -/
def goodp (p : Rat) : Bool := decide (0 < sgn p) && decide (cq p 1 ≤ 0)
def estE (qs ps : List Rat) : Int := if qs.length = 0 ∨ qs.length ≠ ps.length then 104 else if ps.all goodp then 0 else 105
def estL (qs ps : List Rat) : List Rat := qs.zipWith (· / ·) ps
def estQ (qs ps : List Rat) : Rat := if estE qs ps = 0 then qsum (estL qs ps) else 0
def EstPost (er : Int) (q : Rat) (w : World) (e : Ending) (w' : World) : Prop := ∃ k s a n c o m d, e = .returned (.tuple #[.agg #[.bool s, .slice a n c, .slice o m d], .int .i64 er]) ∧ CQ w.heap.size w' s a n c o m d q k ∧ Below w.heap.size w w'
theorem est_list {qs ps : List Rat} (h : qs.length = 0 ∨ qs.length ≠ ps.length) : estE qs ps = 104 ∧ estQ qs ps = 0 := by
  have e : estE qs ps = 104 := by unfold estE; rw [if_pos h]
  exact ⟨e, by unfold estQ; rw [e, if_neg (by decide)]⟩
theorem est_bad {qs ps : List Rat} {i : Nat} (h0 : 1 ≤ qs.length) (h : qs.length = ps.length) (hi : i < ps.length) (hb : goodp (ps.getD i 0) = false) : estE qs ps = 105 ∧ estQ qs ps = 0 := by
  have e : estE qs ps = 105 := by
    unfold estE
    rw [if_neg (by omega), if_neg]
    intro ha
    have := List.all_eq_true.1 ha (ps.getD i 0) (by simp [List.getD, hi])
    rw [hb] at this; cases this
  exact ⟨e, by unfold estQ; rw [e, if_neg (by decide)]⟩
theorem est_good {qs ps : List Rat} (h0 : 1 ≤ qs.length) (h : qs.length = ps.length) (hg : ∀ i, i < ps.length → goodp (ps.getD i 0) = true) : estE qs ps = 0 ∧ estQ qs ps = qsum (estL qs ps) := by
  have e : estE qs ps = 0 := by
    unfold estE
    rw [if_neg (by omega), if_pos]
    rw [List.all_eq_true]
    intro x hx
    obtain ⟨i, hi, rfl⟩ := List.mem_iff_getElem.1 hx
    have := hg i hi
    simpa [List.getD, hi] using this
  exact ⟨e, by unfold estQ; rw [e, if_pos rfl]⟩
theorem good_ne {p : Rat} (h : goodp p = true) : p ≠ 0 := by
  intro e
  subst e
  simp [goodp, sgn_zero_iff.2 rfl] at h
theorem estL_len {qs ps : List Rat} (h : qs.length = ps.length) : (estL qs ps).length = ps.length := by simp [estL, h]
theorem estL_at {qs ps : List Rat} {i : Nat} (h : qs.length = ps.length) (hi : i < ps.length) : (estL qs ps).getD i 0 = qs.getD i 0 / ps.getD i 0 := by
  have h1 : i < qs.length := by omega
  simp [estL, List.getD, List.getElem?_zipWith, hi, h1]
theorem estL_take {qs ps : List Rat} {i : Nat} (h : qs.length = ps.length) (hi : i < ps.length) : (estL qs ps).take (i + 1) = (estL qs ps).take i ++ [qs.getD i 0 / ps.getD i 0] := by
  rw [take_snoc _ 0 i (by rw [estL_len h]; exact hi), estL_at h hi]
end Go.Proofs.YtmhjimcdiglpcaaGreat
/- make's Smalls of eight, fractions and signed numbers of a tape. -/
namespace Go.Proofs.YtmhjimcdiglpcaaGreat
open Go.RowKit

set_option maxHeartbeats 8000000 in
set_option maxRecDepth 100000 in
theorem mFracS (i j : Int) (hi0 : -1000 ≤ i) (hi1 : i ≤ 1000) (hj0 : 1 ≤ j) (hj1 : j ≤ 1000) (w : World) : Calls Tryz.prog 8 #[.int .i64 i, .int .i64 j] w (MakesQ (rq (decide (i < 0) != decide (j < 0)) i.natAbs j.natAbs) 2 w) := by
  have bz := below_new w (.cells #[.bool false, .slice none 0 0, .slice none 0 0] 35)
  have xz := heap_alloc_new w (.cells #[.bool false, .slice none 0 0, .slice none 0 0] 35)
  obtain ⟨W1, hW1⟩ : ∃ W, W = w.alloc (.cells #[.bool false, .slice none 0 0, .slice none 0 0] 35) := ⟨_, rfl⟩
  rw [← hW1] at bz xz
  obtain ⟨q, hq⟩ : ∃ q, q = rq (decide (i < 0) != decide (j < 0)) i.natAbs j.natAbs := ⟨_, rfl⟩
  rw [← hq]
  have FR : Hid (∀ w', Calls Tryz.prog 30 #[.int .i64 i, .int .i64 j] w' (MakesE q 2 w')) := fun w' => by rw [hq]; exact rFraction_q i j (by omega) (by omega) (by omega) (by omega) (by omega) w'
  have B1 := Lib.hid bz
  have X1 := Lib.hid xz
  clear hq
  clear bz xz
  go_enter Tryz.func8, Tryz.ntmps8
  go_wp2_with fail
  rw [← hW1]
  clear hW1
  refine (FR.out _).mono ?_; rintro e W2 ⟨s2, a2, n2, c2, o2, m2, d2, rfl, cq2, b2⟩
  have n3 := below_new W2 (.cells #[.bool s2, .slice a2 n2 c2, .slice o2 m2 d2] 35)
  have y3 := heap_alloc_new W2 (.cells #[.bool s2, .slice a2 n2 c2, .slice o2 m2 d2] 35)
  have x3 := carry (carry X1.out b2) n3
  have B3 := (B1.out.trans (b2.mono B1.out.size)).trans (n3.mono (Nat.le_trans B1.out.size b2.size))
  have cq3 := cq2.below n3
  have hlt : w.heap.size < W1.heap.size := (Array.getElem?_eq_some_iff.1 X1.out).1
  obtain ⟨W3, hW3⟩ : ∃ W, W = W2.alloc (.cells #[.bool s2, .slice a2 n2 c2, .slice o2 m2 d2] 35) := ⟨_, rfl⟩
  rw [← hW3] at y3 x3 B3 cq3
  obtain ⟨q0, q1, q2, z0, z1, z2⟩ := at_block x3
  obtain ⟨f0, f1, f2, _⟩ := at_block y3
  have C3 := Lib.hid cq3
  have HB3 := Lib.hid B3
  clear n3 b2 cq2 cq3 x3 y3 B3
  go_upto_region 2 with fail
  rw [← hW3]
  clear hW3
  go_wp2_with fail
  refine bodyPost_ret (v := .agg #[.bool s2, .slice a2 n2 c2, .slice o2 m2 d2]) (by simp [results, Tryz.results8, go_sem, q0, q1, q2]) rfl ?_
  exact MakesQ.lift C3.out rfl hlt (Nat.le_refl _) HB3.out _ _ _
end Go.Proofs.YtmhjimcdiglpcaaGreat
/- Signed numbers of a tape. -/
namespace Go.Proofs.YtmhjimcdiglpcaaGreat
open Go.RowKit
open Go.Sort C6
theorem rd_gbE {w w' : World} {B : Nat} {ao : Option Addr} {cap : Nat} {vs : List Value} (h : RdV w ao cap vs) (hb : 0 < vs.length → ∀ b o, ao = some ⟨b, o, none⟩ → b < B) (hB : B ≤ w.heap.size) (g : w.grownBy w' (some B)) : RdV w' ao cap vs := h.keep hb (gb_below g hB)
theorem gb_far3E {w w2 : World} {row : Option Nat} {g : Nat} (h : w.grownBy w2 row) (hg : w.heap.size ≤ g) (u v x : Value) : w.grownBy (((w2.setCell ⟨g, 0, none⟩ u).setCell ⟨g, 1, none⟩ v).setCell ⟨g, 2, none⟩ x) row := by
  refine ⟨h.os, h.tape, h.output, ?_, fun b hb hne => (set3_off (by omega) _ _ _).trans (h.block b hb hne)⟩
  have := h.size
  simpa [World.setCell] using this
def SgPost (w : World) (B : Nat) (ao : Option Addr) (n cap i : Nat) (e : Ending) (w' : World) : Prop := ∃ s a l c o m d q, e = .returned (.agg #[.bool s, .slice a l c, .slice o m d]) ∧ CQ w.heap.size w' s a l c o m d q 2 ∧ w.grownBy w' (some B) ∧ Tap w' B ao n cap (i + 2)

end Go.Proofs.YtmhjimcdiglpcaaGreat
