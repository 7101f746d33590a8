import Derived.Test.YtdcnkebcpaelpaaGreatDoorPows2
import Derived.Test.YtdcnkebcpaelpaaGreatDoorRat10
import Derived.Deep.AppendLies
import Derived.Test.YtdcnkebcpaelpaaGreatDoorRat5
/- Lists of numbers in memory, as []Ratio holds them. -/
namespace Go.Proofs.YtdcnkebcpaelpaaGreatDoor
open Go.RowKit

/-- one number of a list: the cells of its struct -/
structure RV where
  s : Bool
  ao : Option Addr
  n : Nat
  ca : Nat
  bo : Option Addr
  m : Nat
  cb : Nat
def RV.vals (r : RV) : List Value := [.bool r.s, .slice r.ao r.n r.ca, .slice r.bo r.m r.cb]
def RV.v (r : RV) : Value := .agg #[.bool r.s, .slice r.ao r.n r.ca, .slice r.bo r.m r.cb]
def RV.nil : RV := ⟨false, none, 0, 0, none, 0, 0⟩
def rvs (rs : List RV) : List Value := rs.flatMap RV.vals
/-- the three cells at an address -/
def At3 (w : World) (b o : Nat) (r : RV) : Prop :=
  w.cell? ⟨b, o, none⟩ = some (.bool r.s) ∧ w.cell? ⟨b, o + 1, none⟩ = some (.slice r.ao r.n r.ca) ∧ w.cell? ⟨b, o + 2, none⟩ = some (.slice r.bo r.m r.cb)
/-- the slice at ao, of capacity cap, reads the numbers rs -/
def RdR (w : World) (ao : Option Addr) (cap : Nat) (rs : List RV) : Prop :=
  rs.length ≤ cap ∧ cap ≤ 9223372036854775807 ∧
    ((rs = [] ∧ (ao = none → cap = 0)) ∨ ∃ b o, ao = some ⟨b, o, none⟩ ∧ ∀ i, i < rs.length → At3 w b (o + i * 3) (rs.getD i RV.nil))
theorem At3.below {w w' : World} {b o : Nat} {r : RV} (h : At3 w b o r) (g : Below w.heap.size w w') : At3 w' b o r := by
  have lt : b < w.heap.size := by
    have := h.1
    unfold World.cell? at this
    by_cases hb : b < w.heap.size
    · exact hb
    · simp [Array.getElem?_eq_none (Nat.le_of_not_lt hb)] at this
  exact ⟨(g.cell (p := ⟨b, o, none⟩) lt).trans h.1, (g.cell (p := ⟨b, o + 1, none⟩) lt).trans h.2.1, (g.cell (p := ⟨b, o + 2, none⟩) lt).trans h.2.2⟩
theorem RdR.below {w w' : World} {ao : Option Addr} {cap : Nat} {rs : List RV} (h : RdR w ao cap rs) (g : Below w.heap.size w w') : RdR w' ao cap rs := by
  obtain ⟨h1, h2, h3⟩ := h
  refine ⟨h1, h2, ?_⟩
  rcases h3 with h3 | ⟨b, o, rfl, h3⟩
  · exact .inl h3
  · exact .inr ⟨b, o, rfl, fun i hi => (h3 i hi).below g⟩
theorem RdR.take {w : World} {ao : Option Addr} {cap : Nat} {rs : List RV} (h : RdR w ao cap rs) (k : Nat) : RdR w ao cap (rs.take k) := by
  obtain ⟨h1, h2, h3⟩ := h
  refine ⟨by rw [List.length_take]; omega, h2, ?_⟩
  rcases h3 with ⟨rfl, h3⟩ | ⟨b, o, rfl, h3⟩
  · exact .inl ⟨by simp, h3⟩
  · refine .inr ⟨b, o, rfl, fun i hi => ?_⟩
    rw [List.length_take] at hi
    have := h3 i (by omega)
    rwa [show (rs.take k).getD i RV.nil = rs.getD i RV.nil by simp [List.getD, show i < k by omega]]
theorem RdR.at {w : World} {ao : Option Addr} {cap : Nat} {rs : List RV} (h : RdR w ao cap rs) (hn : 0 < rs.length) : ∃ b o, ao = some ⟨b, o, none⟩ ∧ ∀ i, i < rs.length → At3 w b (o + i * 3) (rs.getD i RV.nil) := by
  rcases h.2.2 with ⟨rfl, _⟩ | h
  · simp at hn
  · exact h
theorem rvs_length (rs : List RV) : (rvs rs).length = rs.length * 3 := by
  induction rs with
  | nil => rfl
  | cons r rs ih =>
    show (RV.vals r ++ rvs rs).length = (rs.length + 1) * 3
    rw [List.length_append, ih]
    simp [RV.vals]; omega
theorem rvs_append (rs : List RV) (r : RV) : rvs (rs ++ [r]) = rvs rs ++ [.bool r.s, .slice r.ao r.n r.ca, .slice r.bo r.m r.cb] := by simp [rvs, RV.vals]
theorem rvs_at (rs : List RV) (i : Nat) (hi : i < rs.length) : (rvs rs)[i * 3]? = some (.bool (rs.getD i RV.nil).s) ∧ (rvs rs)[i * 3 + 1]? = some (.slice (rs.getD i RV.nil).ao (rs.getD i RV.nil).n (rs.getD i RV.nil).ca) ∧ (rvs rs)[i * 3 + 2]? = some (.slice (rs.getD i RV.nil).bo (rs.getD i RV.nil).m (rs.getD i RV.nil).cb) := by
  induction rs generalizing i with
  | nil => simp at hi
  | cons r rs ih =>
    cases i with
    | zero => simp [rvs, RV.vals]
    | succ i =>
      have := ih i (by simpa using hi)
      have e : ∀ j, (rvs (r :: rs))[(i + 1) * 3 + j]? = (rvs rs)[i * 3 + j]? := fun j => by
        show (RV.vals r ++ rvs rs)[(i + 1) * 3 + j]? = _
        rw [List.getElem?_append_right (by simp [RV.vals]; omega)]
        congr 1
        simp [RV.vals]; omega
      have e0 := e 0
      simp only [Nat.add_zero] at e0
      rw [e0, e 1, e 2]
      simpa using this
/-- a row of the function's own reads its numbers -/
theorem RdR.of_row {w : World} {base n : Nat} {v : Value} {rs : List RV} (h : w.ownsRow base 25 3 v n (rvs rs)) : ∃ ao cap, v = .slice ao rs.length cap ∧ RdR w ao cap rs := by
  have hlen : rs.length = n := by have := h.1; rw [rvs_length] at this; omega
  subst hlen
  rcases h.2 with ⟨rfl, h0⟩ | ⟨g, cap, cur, rfl, _, _, hn, hc, _, _⟩
  · have : rs = [] := List.eq_nil_of_length_eq_zero h0
    subst this
    exact ⟨none, 0, rfl, by simp, by omega, .inl ⟨rfl, fun _ => rfl⟩⟩
  · refine ⟨_, cap, rfl, hn, by unfold maxLen at hc; omega, .inr ⟨g, 0, rfl, fun i hi => ?_⟩⟩
    obtain ⟨a0, a1, a2⟩ := rvs_at rs i hi
    refine ⟨?_, ?_, ?_⟩
    · rw [Nat.zero_add, h.cellAt (i * 3) (by omega), a0]
    · rw [Nat.zero_add, h.cellAt (i * 3 + 1) (by omega), a1]
    · rw [Nat.zero_add, h.cellAt (i * 3 + 2) (by omega), a2]
end Go.Proofs.YtdcnkebcpaelpaaGreatDoor
/- make's Smalls: the first thirty numbers of a list, each made small. -/
namespace Go.Proofs.YtdcnkebcpaelpaaGreatDoor
open Go.RowKit

/-- a number whose parts read any limbs -/
def Raw (w : World) (r : RV) : Prop := ∃ xs ys, r.n = xs.length ∧ r.m = ys.length ∧ Rd w r.ao r.ca xs ∧ Rd w r.bo r.cb ys
/-- a number that stands for q, of two limbs -/
def Is (w : World) (r : RV) (q : Rat) : Prop := RQ w r.s r.ao r.n r.ca r.bo r.m r.cb q 2
theorem Raw.below {w w' : World} {r : RV} (h : Raw w r) (g : Below w.heap.size w w') : Raw w' r := by
  obtain ⟨xs, ys, h1, h2, h3, h4⟩ := h
  exact ⟨xs, ys, h1, h2, h3.below g, h4.below g⟩
theorem Is.below {w w' : World} {r : RV} {q : Rat} (h : Is w r q) (g : Below w.heap.size w w') : Is w' r q := RQ.below h g
theorem infoRatio : (Tryz.prog.info? 25).map (fun i => (i.zero, i.size, i.bytes)) = some (some (.agg #[.bool false, .slice none 0 0, .slice none 0 0]), 3, 56) := by kernel_rfl
theorem info_partsr {t : TypeId} {z : Value} {s b : Nat} (h : (Tryz.prog.info? t).map (fun i => (i.zero, i.size, i.bytes)) = some (some z, s, b)) : ∃ i, Tryz.prog.info? t = some i ∧ i.zero = some z ∧ i.size = s ∧ i.bytes = b := by
  obtain ⟨i, hi, he⟩ := Option.map_eq_some_iff.1 h
  simp at he
  exact ⟨i, hi, he.1, he.2.1, he.2.2⟩
theorem three_cell (w : World) (u v x : Value) (t : TypeId) : ∀ j y, [u, v, x][j]? = some y → (w.alloc (.cells #[u, v, x] t)).cell? ((⟨w.heap.size, 0, none⟩ : Addr).add j) = some y := by
  intro j y hj
  rw [Addr.add_lit]
  match j with
  | 0 => cases hj; exact World.cell?_alloc_mark w _ _ (0, 0) 0
  | 1 => cases hj; exact World.cell?_alloc_mark w _ _ (0, 0) 1
  | 2 => cases hj; exact World.cell?_alloc_mark w _ _ (0, 0) 2
  | j + 3 => cases hj
theorem below_grown {w w' : World} (h : Below w.heap.size w w') : w.grownBy w' none := ⟨h.os, h.tape, h.output, h.size, fun k hk _ => h.block k hk⟩
theorem rows_below {w w' : World} {base n : Nat} {t : TypeId} {v : Value} {xs : List Value} {B : Nat} (h : w.ownsRow base t 3 v n xs) (hB : B ≤ base) (hBw : B ≤ w.heap.size) (g : w.grownBy w' v.ownBlock) : Below B w w' :=
  (Below.refl _ _).grown g hBw (fun k e => by have := h.lt k e; omega)
end Go.Proofs.YtdcnkebcpaelpaaGreatDoor
/- The sum of a list: the code's, with a closure over the total, and the reference's, by a loop. -/
namespace Go.Proofs.YtdcnkebcpaelpaaGreatDoor
open Go.RowKit

/-- the sum of the numbers of a list -/
def tot (f : RV → Rat) : List RV → Rat
  | [] => 0
  | r :: rs => f r + tot f rs
theorem tot_snoc (f : RV → Rat) (rs : List RV) (r : RV) : tot f (rs ++ [r]) = tot f rs + f r := by
  induction rs with
  | nil => simp [tot, Rat.add_zero, Rat.zero_add]
  | cons a rs ih => simp [tot, ih, Rat.add_assoc]
theorem tot_reverse (f : RV → Rat) (rs : List RV) : tot f rs.reverse = tot f rs := by
  induction rs with
  | nil => rfl
  | cons a rs ih => rw [List.reverse_cons, tot_snoc, ih, tot, Rat.add_comm]
theorem tot_take (f : RV → Rat) (rs : List RV) (i : Nat) (hi : i < rs.length) : tot f (rs.take (i + 1)) = tot f (rs.take i) + f (rs.getD i RV.nil) := by
  have e : rs.take (i + 1) = rs.take i ++ [rs.getD i RV.nil] := by
    rw [List.take_add_one, List.getElem?_eq_getElem hi]
    simp [List.getD, hi]
  rw [e, tot_snoc]
/-- limbs of a sum -/
def kk (i : Nat) : Nat := 3 * 2 ^ i - 1
theorem kk_zero : kk 0 = 2 := rfl
theorem kk_succ (i : Nat) : kk (i + 1) = kk i + kk i + 1 := by
  unfold kk
  have : 0 < 2 ^ i := Nat.two_pow_pos i
  rw [Nat.pow_succ]; omega
theorem kk_two (i : Nat) : 2 ≤ kk i := by
  unfold kk
  have : 0 < 2 ^ i := Nat.two_pow_pos i
  omega
theorem kk_le {i : Nat} (hi : i ≤ 30) : kk i ≤ 3221225471 := by
  unfold kk
  have : 2 ^ i ≤ 2 ^ 30 := Nat.pow_le_pow_right (by omega) hi
  have e : (2 : Nat) ^ 30 = 1073741824 := rfl
  omega
/-- the box at g holds the number q -/
def TotAt (w : World) (g : Nat) (q : Rat) (k : Nat) : Prop :=
  ∃ s a n c o m d, w.heap[g]? = some (.cells #[.bool s, .slice a n c, .slice o m d] 25 (0, 0)) ∧ CQ (g + 1) w s a n c o m d q k
theorem TotAt.below {w w' : World} {g : Nat} {q : Rat} {k : Nat} (h : TotAt w g q k) (b : Below w.heap.size w w') : TotAt w' g q k := by
  obtain ⟨s, a, n, c, o, m, d, h1, h2⟩ := h
  exact ⟨s, a, n, c, o, m, d, carry h1 b, h2.below b⟩
theorem TotAt.lt {w : World} {g : Nat} {q : Rat} {k : Nat} (h : TotAt w g q k) : g < w.heap.size := by
  obtain ⟨s, a, n, c, o, m, d, h1, h2⟩ := h
  exact (Array.getElem?_eq_some_iff.1 h1).1

set_option maxHeartbeats 8000000 in
set_option maxRecDepth 100000 in
theorem Sum1_q (r : RV) (p q : Rat) (g k : Nat) (w : World) (h : TotAt w g p k) (hr : Is w r q) (hk : 2 ≤ k) (hk2 : k + k + 1 ≤ 549755813888) :
    Calls Tryz.prog 28 #[.agg #[.bool r.s, .slice r.ao r.n r.ca, .slice r.bo r.m r.cb], .pointer (some ⟨g, 0, none⟩)] w fun e w' => e = .returned (.tuple #[]) ∧ TotAt w' g (p + q) (k + k + 1) ∧ (∀ B, B ≤ g → Below B w w') := by
  have hg := h.lt
  obtain ⟨s, a, n, c, o, m, d, x0, cq⟩ := h
  have B1 := below_new w (.cells #[.bool r.s, .slice r.ao r.n r.ca, .slice r.bo r.m r.cb] 25)
  have x1 := carry x0 B1
  have cq1 := cq.below B1
  have hr1 := hr.below B1
  have y1 := heap_alloc_new w (.cells #[.bool r.s, .slice r.ao r.n r.ca, .slice r.bo r.m r.cb] 25)
  obtain ⟨W1, hW1⟩ : ∃ W1, W1 = w.alloc (.cells #[.bool r.s, .slice r.ao r.n r.ca, .slice r.bo r.m r.cb] 25) := ⟨_, rfl⟩
  rw [← hW1] at B1 x1 cq1 hr1 y1
  have HA : Calls Tryz.prog 9 #[.agg #[.bool s, .slice a n c, .slice o m d], .agg #[.bool r.s, .slice r.ao r.n r.ca, .slice r.bo r.m r.cb]] W1 (MakesQ (p + q) (k + k + 1) W1) := Add_q _ _ _ _ _ _ _ _ _ _ _ _ _ _ k p q W1 cq1.rq (RQ.up hr1 hk (by omega)) hk2
  have HA2 := Lib.hid HA
  clear HA hr1 hr cq cq1
  obtain ⟨c0, c1, c2, _, _, _⟩ := at_block x0
  have X1 := Lib.hid x1
  clear x0 x1 y1
  go_enter Tryz.func28, Tryz.ntmps28
  go_wp2_with fail
  rw [← hW1]
  clear hW1
  refine (HA2.out).mono ?_; rintro e W2 ⟨s2, a2, n2, e2, o2, m2, f2, rfl, cq2, b2⟩
  have x2 := carry X1.out b2
  have hg1 : g < W1.heap.size := (Array.getElem?_eq_some_iff.1 X1.out).1
  have B2 := B1.trans (b2.mono B1.size)
  have HR : Hid (TotAt (((W2.setCell ⟨g, 0, none⟩ (.bool s2)).setCell ⟨g, 1, none⟩ (.slice a2 n2 e2)).setCell ⟨g, 2, none⟩ (.slice o2 m2 f2)) g (p + q) (k + k + 1)) :=
    ⟨s2, a2, n2, e2, o2, m2, f2, set3_at x2 _ _ _, (((cq2.mono (by omega)).set_at 0 _).set_at 1 _).set_at 2 _⟩
  have HB : Hid (∀ B, B ≤ g → Below B w (((W2.setCell ⟨g, 0, none⟩ (.bool s2)).setCell ⟨g, 1, none⟩ (.slice a2 n2 e2)).setCell ⟨g, 2, none⟩ (.slice o2 m2 f2))) := fun B hB => below3 (B2.mono (by omega)) hB _ _ _
  obtain ⟨u0, u1, u2, z0, z1, z2⟩ := at_block x2
  clear c0 c1 c2 cq2 b2 x2 B1 B2 X1 HA2
  go_wp2_with fail
  refine bodyPost_end (v := .tuple #[]) (by simp [results, Tryz.results28, go_sem]) rfl ?_
  exact ⟨rfl, HR.out, HB.out⟩

set_option maxHeartbeats 8000000 in
set_option maxRecDepth 100000 in
theorem fold_q (f : RV → Rat) (ao : Option Addr) (cap : Nat) (us : List RV) (g : Nat) (w0 w : World) (h : RdR w0 ao cap us) (hl : us.length ≤ 30) (hf : ∀ u ∈ us, Is w0 u (f u)) (hb : Below w0.heap.size w0 w) (hg : w0.heap.size ≤ g) (ht : TotAt w g 0 2) :
    Calls Tryz.prog 27 #[.slice ao us.length cap, .func (.func 28) #[] #[.pointer (some ⟨g, 0, none⟩)]] w fun e w' => e = .returned (.tuple #[]) ∧ TotAt w' g (tot f us) (kk us.length) ∧ (∀ B, B ≤ g → Below B w w') := by
  obtain ⟨n, hn⟩ : ∃ n, n = us.length := ⟨_, rfl⟩
  have a1 := h.1
  have a2 := h.2.1
  rw [← hn] at a1 hl ⊢
  have HH := Lib.hid h
  have HF : Hid (∀ u ∈ us, Is w0 u (f u)) := hf
  have HN := Lib.hid hn
  have HB := Lib.hid hb
  have HT := Lib.hid ht
  clear h hf hn hb ht
  go_enter Tryz.func27, Tryz.ntmps27
  go_wp2_with fail
  go_loopw [8] (fun s8 wr => ∃ i : Nat, i ≤ n ∧ s8 = .int .i64 (i : Int) ∧ Hid (TotAt wr g (tot f (us.take i)) (kk i)) ∧ Hid (∀ B, B ≤ g → Below B w wr)) (fun s8 _ => n - (intOf s8).toNat)
  case atStart => exact ⟨0, by omega, rfl, HT.out, fun _ _ => Below.refl _ _⟩
  case round =>
    obtain ⟨i, hi, rfl, htot, hfr⟩ := hrel
    have hgs := htot.out.lt
    have hbl : Hid (Below w0.heap.size w0 wr) := HB.out.trans (hfr.out _ hg)
    by_cases hlt : i < n
    · have hlt2 : (i : Int) < (n : Int) := by omega
      obtain ⟨b, o, rfl, hat⟩ := HH.out.at (by rw [← HN.out]; omega)
      obtain ⟨r, hre⟩ : ∃ r, r = us.getD i RV.nil := ⟨_, rfl⟩
      obtain ⟨c0, c1, c2⟩ := (hat i (by rw [← HN.out]; omega)).below hbl.out
      rw [← hre] at c0 c1 c2
      have hmem : r ∈ us := by
        rw [hre]
        have : i < us.length := by rw [← HN.out]; omega
        simp [List.getD, this]
      have n1 := below_new wr (.cells #[.bool r.s, .slice r.ao r.n r.ca, .slice r.bo r.m r.cb] 25)
      have B1 := hbl.out.trans (n1.mono hbl.out.size)
      have HC := Lib.hid (Sum1_q r _ (f r) g (kk i) _ (htot.out.below n1) ((HF.out r hmem).below B1) (kk_two i) (by have := kk_le (show i ≤ 30 by omega); omega))
      have HE : Hid (tot f (us.take (i + 1)) = tot f (us.take i) + f r) := by unfold Hid; rw [hre]; exact tot_take f us i (by rw [← HN.out]; omega)
      have HB1 := Lib.hid n1
      clear hat hre hmem n1 B1
      go_wp2_with fail
      refine (HC.out).mono ?_; rintro e w2 ⟨rfl, t2, b2⟩
      have HT2 : Hid (TotAt w2 g (tot f (us.take (i + 1))) (kk (i + 1))) := by unfold Hid; rw [HE.out, kk_succ]; exact t2
      have HB2 : Hid (∀ B, B ≤ g → Below B w w2) := fun B hB => (hfr.out B hB).trans ((HB1.out.mono (by omega)).trans (b2 _ hB))
      clear c0 c1 c2 HC t2 b2
      go_wp2_with fail
      go_roundw
      case rel => exact ⟨i + 1, by omega, by go_num, HT2, HB2⟩
      case measure => simp [intOf]; omega
    · obtain rfl : i = n := by omega
      have hlt2 : ¬ (i : Int) < (i : Int) := by omega
      go_wp2_with fail
      refine bodyPost_end (v := .tuple #[]) (by simp [results, Tryz.results27, go_sem]) rfl ?_
      refine ⟨rfl, ?_, hfr.out⟩
      have := htot.out
      rwa [HN.out, List.take_length, ← HN.out] at this

set_option maxHeartbeats 8000000 in
set_option maxRecDepth 100000 in
theorem Sum_q (f : RV → Rat) (ao : Option Addr) (cap : Nat) (us : List RV) (w : World) (h : RdR w ao cap us) (hl : us.length ≤ 30) (hf : ∀ u ∈ us, Is w u (f u)) :
    Calls Tryz.prog 12 #[.slice ao us.length cap] w (MakesQ (tot f us) (kk us.length) w) := by
  have B1 := below_new w (.cells #[.bool false, .slice none 0 0, .slice none 0 0] 25)
  have y1 := heap_alloc_new w (.cells #[.bool false, .slice none 0 0, .slice none 0 0] 25)
  have s1 : (w.alloc (.cells #[.bool false, .slice none 0 0, .slice none 0 0] 25)).heap.size = w.heap.size + 1 := World.size_alloc _ _
  obtain ⟨W1, hW1⟩ : ∃ W1, W1 = w.alloc (.cells #[.bool false, .slice none 0 0, .slice none 0 0] 25) := ⟨_, rfl⟩
  rw [← hW1] at B1 y1 s1
  have B2 := B1.trans ((below_new W1 (.cells #[.bool false, .slice none 0 0, .slice none 0 0] 25)).mono B1.size)
  have y2 := carry y1 (below_new W1 (.cells #[.bool false, .slice none 0 0, .slice none 0 0] 25))
  have x2 := heap_alloc_new W1 (.cells #[.bool false, .slice none 0 0, .slice none 0 0] 25)
  obtain ⟨W2, hW2⟩ : ∃ W2, W2 = W1.alloc (.cells #[.bool false, .slice none 0 0, .slice none 0 0] 25) := ⟨_, rfl⟩
  rw [← hW2] at B2 y2 x2
  have s2 : W2.heap.size = w.heap.size + 1 + 1 := by rw [hW2, World.size_alloc, s1]
  have HC := Lib.hid (fold_q f ao cap us W1.heap.size w W2 h hl hf B2 B1.size ⟨_, _, _, _, _, _, _, x2, cq_zero _ _ 2 (by omega) (by omega)⟩)
  rw [s1] at HC
  have HY := Lib.hid y2
  have HS := Lib.hid s2
  have HB := Lib.hid B2
  clear h hf hl B2 y2 x2 y1 B1 s1 s2
  go_enter Tryz.func12, Tryz.ntmps12
  go_wp2_with fail
  rw [← hW1, ← hW2]
  clear hW1 hW2
  refine (HC.out).mono ?_; rintro e W3 ⟨rfl, ⟨s3, a3, n3, e3, o3, m3, f3, x3, cq3⟩, b3⟩
  have g3 : w.heap.size < W2.heap.size := by rw [HS.out]; omega
  have y3 := ((b3 (w.heap.size + 1) (Nat.le_refl _)).block w.heap.size (by omega)).trans HY.out
  have B3 := HB.out.trans (b3 w.heap.size (by omega))
  obtain ⟨u0, u1, u2, z0, z1, z2⟩ := at_block y3
  obtain ⟨v0, v1, v2, _, _, _⟩ := at_block x3
  rw [show w.heap.size + 1 + 1 = W2.heap.size from HS.out.symm] at cq3
  have HQ := Lib.hid cq3
  have HB3 := Lib.hid B3
  clear HC HY HB HS x3 y3 cq3 b3 B3
  go_wp2_with fail
  refine bodyPost_ret (v := .agg #[.bool s3, .slice a3 n3 e3, .slice o3 m3 f3]) (by simp [results, Tryz.results12, go_sem, u0, u1, u2]) rfl ?_
  exact MakesQ.lift HQ.out rfl g3 (Nat.le_refl _) HB3.out _ _ _

end Go.Proofs.YtdcnkebcpaelpaaGreatDoor
