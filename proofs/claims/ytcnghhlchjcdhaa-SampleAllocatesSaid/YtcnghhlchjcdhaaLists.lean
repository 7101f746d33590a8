import Derived.Test.YtcnghhlchjcdhaaRatsE
import Derived.Test.YtcnghhlchjcdhaaRatsD
import Derived.Deep.AppendLies
import Derived.Test.YtcnghhlchjcdhaaRatsB
/- Lists of numbers in memory, as []Ratio holds them. -/
namespace Go.Proofs.Ytcnghhlchjcdhaa
open Go.RowKit

/-- one number of a list: the cells of its struct -/
structure RV where
  s : Bool
  ao : Option Addr
  n : Nat
  ca : Nat
  bo : Option Addr
  m : Nat
  cb : Nat
def RV.vals (r : RV) : List Value := [.bool r.s, .slice r.ao r.n r.ca, .slice r.bo r.m r.cb]
def RV.v (r : RV) : Value := .agg #[.bool r.s, .slice r.ao r.n r.ca, .slice r.bo r.m r.cb]
def RV.nil : RV := ⟨false, none, 0, 0, none, 0, 0⟩
def rvs (rs : List RV) : List Value := rs.flatMap RV.vals
/-- the three cells at an address -/
def At3 (w : World) (b o : Nat) (r : RV) : Prop :=
  w.cell? ⟨b, o, none⟩ = some (.bool r.s) ∧ w.cell? ⟨b, o + 1, none⟩ = some (.slice r.ao r.n r.ca) ∧ w.cell? ⟨b, o + 2, none⟩ = some (.slice r.bo r.m r.cb)
/-- the slice at ao, of capacity cap, reads the numbers rs -/
def RdR (w : World) (ao : Option Addr) (cap : Nat) (rs : List RV) : Prop :=
  rs.length ≤ cap ∧ cap ≤ 9223372036854775807 ∧
    ((rs = [] ∧ (ao = none → cap = 0)) ∨ ∃ b o, ao = some ⟨b, o, none⟩ ∧ ∀ i, i < rs.length → At3 w b (o + i * 3) (rs.getD i RV.nil))
theorem At3.below {w w' : World} {b o : Nat} {r : RV} (h : At3 w b o r) (g : Below w.heap.size w w') : At3 w' b o r := by
  have lt : b < w.heap.size := by
    have := h.1
    unfold World.cell? at this
    by_cases hb : b < w.heap.size
    · exact hb
    · simp [Array.getElem?_eq_none (Nat.le_of_not_lt hb)] at this
  exact ⟨(g.cell (p := ⟨b, o, none⟩) lt).trans h.1, (g.cell (p := ⟨b, o + 1, none⟩) lt).trans h.2.1, (g.cell (p := ⟨b, o + 2, none⟩) lt).trans h.2.2⟩
theorem RdR.below {w w' : World} {ao : Option Addr} {cap : Nat} {rs : List RV} (h : RdR w ao cap rs) (g : Below w.heap.size w w') : RdR w' ao cap rs := by
  obtain ⟨h1, h2, h3⟩ := h
  refine ⟨h1, h2, ?_⟩
  rcases h3 with h3 | ⟨b, o, rfl, h3⟩
  · exact .inl h3
  · exact .inr ⟨b, o, rfl, fun i hi => (h3 i hi).below g⟩
theorem RdR.take {w : World} {ao : Option Addr} {cap : Nat} {rs : List RV} (h : RdR w ao cap rs) (k : Nat) : RdR w ao cap (rs.take k) := by
  obtain ⟨h1, h2, h3⟩ := h
  refine ⟨by rw [List.length_take]; omega, h2, ?_⟩
  rcases h3 with ⟨rfl, h3⟩ | ⟨b, o, rfl, h3⟩
  · exact .inl ⟨by simp, h3⟩
  · refine .inr ⟨b, o, rfl, fun i hi => ?_⟩
    rw [List.length_take] at hi
    have := h3 i (by omega)
    rwa [show (rs.take k).getD i RV.nil = rs.getD i RV.nil by simp [List.getD, show i < k by omega]]
theorem RdR.at {w : World} {ao : Option Addr} {cap : Nat} {rs : List RV} (h : RdR w ao cap rs) (hn : 0 < rs.length) : ∃ b o, ao = some ⟨b, o, none⟩ ∧ ∀ i, i < rs.length → At3 w b (o + i * 3) (rs.getD i RV.nil) := by
  rcases h.2.2 with ⟨rfl, _⟩ | h
  · simp at hn
  · exact h
theorem rvs_length (rs : List RV) : (rvs rs).length = rs.length * 3 := by
  induction rs with
  | nil => rfl
  | cons r rs ih =>
    show (RV.vals r ++ rvs rs).length = (rs.length + 1) * 3
    rw [List.length_append, ih]
    simp [RV.vals]; omega
theorem rvs_append (rs : List RV) (r : RV) : rvs (rs ++ [r]) = rvs rs ++ [.bool r.s, .slice r.ao r.n r.ca, .slice r.bo r.m r.cb] := by simp [rvs, RV.vals]
theorem rvs_at (rs : List RV) (i : Nat) (hi : i < rs.length) : (rvs rs)[i * 3]? = some (.bool (rs.getD i RV.nil).s) ∧ (rvs rs)[i * 3 + 1]? = some (.slice (rs.getD i RV.nil).ao (rs.getD i RV.nil).n (rs.getD i RV.nil).ca) ∧ (rvs rs)[i * 3 + 2]? = some (.slice (rs.getD i RV.nil).bo (rs.getD i RV.nil).m (rs.getD i RV.nil).cb) := by
  induction rs generalizing i with
  | nil => simp at hi
  | cons r rs ih =>
    cases i with
    | zero => simp [rvs, RV.vals]
    | succ i =>
      have := ih i (by simpa using hi)
      have e : ∀ j, (rvs (r :: rs))[(i + 1) * 3 + j]? = (rvs rs)[i * 3 + j]? := fun j => by
        show (RV.vals r ++ rvs rs)[(i + 1) * 3 + j]? = _
        rw [List.getElem?_append_right (by simp [RV.vals]; omega)]
        congr 1
        simp [RV.vals]; omega
      have e0 := e 0
      simp only [Nat.add_zero] at e0
      rw [e0, e 1, e 2]
      simpa using this
/-- a row of the function's own reads its numbers -/
theorem RdR.of_row {w : World} {base n : Nat} {v : Value} {rs : List RV} (h : w.ownsRow base 33 3 v n (rvs rs)) : ∃ ao cap, v = .slice ao rs.length cap ∧ RdR w ao cap rs := by
  have hlen : rs.length = n := by have := h.1; rw [rvs_length] at this; omega
  subst hlen
  rcases h.2 with ⟨rfl, h0⟩ | ⟨g, cap, cur, rfl, _, _, hn, hc, _, _⟩
  · have : rs = [] := List.eq_nil_of_length_eq_zero h0
    subst this
    exact ⟨none, 0, rfl, by simp, by omega, .inl ⟨rfl, fun _ => rfl⟩⟩
  · refine ⟨_, cap, rfl, hn, by unfold maxLen at hc; omega, .inr ⟨g, 0, rfl, fun i hi => ?_⟩⟩
    obtain ⟨a0, a1, a2⟩ := rvs_at rs i hi
    refine ⟨?_, ?_, ?_⟩
    · rw [Nat.zero_add, h.cellAt (i * 3) (by omega), a0]
    · rw [Nat.zero_add, h.cellAt (i * 3 + 1) (by omega), a1]
    · rw [Nat.zero_add, h.cellAt (i * 3 + 2) (by omega), a2]
end Go.Proofs.Ytcnghhlchjcdhaa
/- make's Smalls: the first thirty numbers of a list, each made small. -/
namespace Go.Proofs.Ytcnghhlchjcdhaa
open Go.RowKit

/-- a number whose parts read any limbs -/
def Raw (w : World) (r : RV) : Prop := ∃ xs ys, r.n = xs.length ∧ r.m = ys.length ∧ Rd w r.ao r.ca xs ∧ Rd w r.bo r.cb ys
/-- a number that stands for q, of two limbs -/
def Is (w : World) (r : RV) (q : Rat) : Prop := RQ w r.s r.ao r.n r.ca r.bo r.m r.cb q 2
theorem Raw.below {w w' : World} {r : RV} (h : Raw w r) (g : Below w.heap.size w w') : Raw w' r := by
  obtain ⟨xs, ys, h1, h2, h3, h4⟩ := h
  exact ⟨xs, ys, h1, h2, h3.below g, h4.below g⟩
theorem Is.below {w w' : World} {r : RV} {q : Rat} (h : Is w r q) (g : Below w.heap.size w w') : Is w' r q := RQ.below h g
theorem infoRatio : (Try.prog.info? 33).map (fun i => (i.zero, i.size, i.bytes)) = some (some (.agg #[.bool false, .slice none 0 0, .slice none 0 0]), 3, 56) := by kernel_rfl
theorem info_partsr {t : TypeId} {z : Value} {s b : Nat} (h : (Try.prog.info? t).map (fun i => (i.zero, i.size, i.bytes)) = some (some z, s, b)) : ∃ i, Try.prog.info? t = some i ∧ i.zero = some z ∧ i.size = s ∧ i.bytes = b := by
  obtain ⟨i, hi, he⟩ := Option.map_eq_some_iff.1 h
  simp at he
  exact ⟨i, hi, he.1, he.2.1, he.2.2⟩
theorem three_cell (w : World) (u v x : Value) (t : TypeId) : ∀ j y, [u, v, x][j]? = some y → (w.alloc (.cells #[u, v, x] t)).cell? ((⟨w.heap.size, 0, none⟩ : Addr).add j) = some y := by
  intro j y hj
  rw [Addr.add_lit]
  match j with
  | 0 => cases hj; exact World.cell?_alloc_mark w _ _ (0, 0) 0
  | 1 => cases hj; exact World.cell?_alloc_mark w _ _ (0, 0) 1
  | 2 => cases hj; exact World.cell?_alloc_mark w _ _ (0, 0) 2
  | j + 3 => cases hj
theorem below_grown {w w' : World} (h : Below w.heap.size w w') : w.grownBy w' none := ⟨h.os, h.tape, h.output, h.size, fun k hk _ => h.block k hk⟩
theorem rows_below {w w' : World} {base n : Nat} {t : TypeId} {v : Value} {xs : List Value} {B : Nat} (h : w.ownsRow base t 3 v n xs) (hB : B ≤ base) (hBw : B ≤ w.heap.size) (g : w.grownBy w' v.ownBlock) : Below B w w' :=
  (Below.refl _ _).grown g hBw (fun k e => by have := h.lt k e; omega)
/-- the small number, by its first limbs -/
theorem Small_rv (r : RV) (w : World) (h : Raw w r) : ∃ r' : RV, ∃ q : Rat, (∀ w', Below w.heap.size w w' → Is w' r' q) ∧
    ∀ w', Below w.heap.size w w' → Calls Try.prog 21 #[.agg #[.bool r.s, .slice r.ao r.n r.ca, .slice r.bo r.m r.cb]] w' fun e w'' => e = .returned (.agg #[.bool r'.s, .slice r'.ao r'.n r'.ca, .slice r'.bo r'.m r'.cb]) ∧ Below w'.heap.size w' w'' := by
  obtain ⟨xs, ys, h1, h2, h3, h4⟩ := h
  refine ⟨⟨r.s, r.ao, (xs.take 1).length, r.ca, r.bo, (ys.take 1).length, r.cb⟩, rq r.s (val (xs.take 1)) (dn (val (ys.take 1))), fun w' g => ?_, fun w' g => ?_⟩
  · exact RQ.below (small_rq h3 h4 rfl rfl) g
  · rw [h1, h2]
    exact Small_any r.s r.ao r.bo r.ca r.cb xs ys _ _ w' (h3.below g) (h4.below g) rfl rfl

set_option maxHeartbeats 8000000 in
set_option maxRecDepth 100000 in
theorem Smalls_any (ao : Option Addr) (cap : Nat) (rs : List RV) (w : World) (h : RdR w ao cap rs) (hr : ∀ r ∈ rs, Raw w r) :
    Calls Try.prog 5 #[.slice ao rs.length cap, .int .i64 30] w fun e w' => ∃ ro rc us, e = .returned (.slice ro us.length rc) ∧ us.length ≤ 30 ∧ RdR w' ro rc us ∧ (∀ u ∈ us, ∃ q, Is w' u q) ∧ Below w.heap.size w w' := by
  obtain ⟨i0, hi, hz0, hz1, hz2⟩ := info_partsr infoRatio
  obtain ⟨n, hn⟩ : ∃ n, n = rs.length := ⟨_, rfl⟩
  obtain ⟨N, hN⟩ : ∃ N, N = min n 30 := ⟨_, rfl⟩
  have mm : min (n : Int) 30 = (N : Int) := by omega
  have a1 := h.1
  have a2 := h.2.1
  rw [← hn] at a1
  have l0 : (0 : Int) ≤ (N : Int) := by omega
  have l1 : (N : Int) ≤ (cap : Int) := by omega
  have hN30 : N ≤ 30 := by omega
  have hNn : N ≤ n := by omega
  have HH := Lib.hid h
  have HR : Hid (∀ r ∈ rs, Raw w r) := hr
  have HN := Lib.hid hn
  rw [← hn]
  clear hN h hr hn
  go_enter Try.func5, Try.ntmps5
  go_wp2_with fail
  go_loopw [5, 15] (fun s5 s15 wr => ∃ (i : Nat) (us : List RV) (v : Value), i ≤ N ∧ s15 = .int .i64 (i : Int) ∧ v = s5 ∧ Hid (us.length = i) ∧ Hid (wr.ownsRow w.heap.size 33 3 v i (rvs us)) ∧ Hid (∀ u ∈ us, ∃ q, ∀ w', Below w.heap.size w w' → Is w' u q) ∧ Hid (Below w.heap.size w wr)) (fun _ s15 _ => N - (intOf s15).toNat)
  case atStart => exact ⟨0, [], _, by omega, rfl, rfl, rfl, World.ownsRow_nil _ _ _ _, fun z hz => by simp at hz, Below.refl _ _⟩
  case round =>
    obtain ⟨i, us, v, hiN, rfl, rfl, hl, hown, hus, hbl⟩ := hrel
    by_cases hlt : i < N
    · have hlt2 : (i : Int) < (N : Int) := by omega
      obtain ⟨b, o, rfl, hat⟩ := HH.out.at (by rw [← HN.out]; omega)
      obtain ⟨r, hre⟩ : ∃ r, r = rs.getD i RV.nil := ⟨_, rfl⟩
      obtain ⟨c0, c1, c2⟩ := (hat i (by rw [← HN.out]; omega)).below hbl.out
      rw [← hre] at c0 c1 c2
      have hmem : r ∈ rs := by
        rw [hre]
        have : i < rs.length := by rw [← HN.out]; omega
        simp [List.getD, this]
      obtain ⟨r', q, hq, hc⟩ := Small_rv r w (HR.out r hmem)
      have HQ := Lib.hid hq
      have HC := Lib.hid hc
      clear hat hre hmem hq hc
      go_wp2_with fail
      have n1 := below_new wr (.cells #[.bool r.s, .slice r.ao r.n r.ca, .slice r.bo r.m r.cb] 33)
      refine (HC.out _ (hbl.out.trans (n1.mono hbl.out.size))).mono ?_; rintro e w2 ⟨rfl, b2⟩
      have g2 : Below wr.heap.size wr w2 := n1.trans (b2.mono n1.size)
      have hown2 := hown.out.kept (below_grown g2) (by cases v.ownBlock with | none => exact .inl rfl | some k => exact .inr (by simp))
      have HG2 := Lib.hid g2
      have HO := Lib.hid hown2
      have hwz : w.heap.size ≤ w2.heap.size := Nat.le_trans hbl.out.size g2.size
      clear n1 b2 g2 hown2 c0 c1 c2 HC
      go_wp2_with (at_builtin; refine wpList_append_own _ rfl _ _ 22 rfl w.heap.size 33 i0 (.agg #[.bool false, .slice none 0 0, .slice none 0 0]) 3 56 Try.underlying22 hi hz0 hz1 hz2 rfl (by omega) _ _ _ rfl (HO.out.alloc _) ⟨w2.heap.size, 0, none⟩ 1 1 [.bool r'.s, .slice r'.ao r'.n r'.ca, .slice r'.bo r'.m r'.cb] rfl rfl (three_cell _ _ _ _ _) (by intro u hu; simp at hu; rcases hu with rfl | rfl | rfl <;> rfl) (by unfold maxLen; omega) (by omega) (by simp; omega) ?_; intro v3 w3 hown3 hgr3 _)
      have hb3 : Below w.heap.size w w3 := by
        have hA := below_new w2 (.cells #[.bool r'.s, .slice r'.ao r'.n r'.ca, .slice r'.bo r'.m r'.cb] 33)
        refine hbl.out.trans ((HG2.out.mono hbl.out.size).trans ((hA.mono hwz).trans ?_))
        exact rows_below (HO.out.alloc _) (Nat.le_refl _) (by simp; omega) hgr3
      have HB3 := Lib.hid hb3
      have HO3 : Hid (w3.ownsRow w.heap.size 33 3 v3 (i + 1) (rvs (us ++ [r']))) := by unfold Hid; rw [rvs_append]; exact hown3
      have HU3 : Hid (∀ u ∈ us ++ [r'], ∃ q, ∀ w', Below w.heap.size w w' → Is w' u q) := fun u hu => by
        rcases List.mem_append.1 hu with hu | hu
        · exact hus.out u hu
        · simp at hu; subst hu; exact ⟨q, HQ.out⟩
      have HL3 : Hid ((us ++ [r']).length = i + 1) := by unfold Hid; rw [List.length_append, hl.out]; rfl
      clear hb3 hown3 hgr3
      go_wp2_with fail
      go_roundw
      case rel => exact ⟨i + 1, _, _, by omega, by go_num, rfl, HL3, HO3, HU3, HB3⟩
      case measure => simp [intOf]; omega
    · obtain rfl : i = N := by omega
      have hlt2 : ¬ (i : Int) < (i : Int) := by omega
      go_wp2_with fail
      obtain ⟨ro, rc, rfl, hrd⟩ := RdR.of_row hown.out
      go_ret
      exact ⟨ro, rc, us, rfl, by rw [hl.out]; omega, hrd, fun u hu => (hus.out u hu).imp fun q hq => hq _ hbl.out, hbl.out⟩
end Go.Proofs.Ytcnghhlchjcdhaa
/- The sum of a list: the code's, with a closure over the total, and the reference's, by a loop. -/
namespace Go.Proofs.Ytcnghhlchjcdhaa
open Go.RowKit

/-- the sum of the numbers of a list -/
def tot (f : RV → Rat) : List RV → Rat
  | [] => 0
  | r :: rs => f r + tot f rs
theorem tot_snoc (f : RV → Rat) (rs : List RV) (r : RV) : tot f (rs ++ [r]) = tot f rs + f r := by
  induction rs with
  | nil => simp [tot, Rat.add_zero, Rat.zero_add]
  | cons a rs ih => simp [tot, ih, Rat.add_assoc]
theorem tot_reverse (f : RV → Rat) (rs : List RV) : tot f rs.reverse = tot f rs := by
  induction rs with
  | nil => rfl
  | cons a rs ih => rw [List.reverse_cons, tot_snoc, ih, tot, Rat.add_comm]
theorem tot_take (f : RV → Rat) (rs : List RV) (i : Nat) (hi : i < rs.length) : tot f (rs.take (i + 1)) = tot f (rs.take i) + f (rs.getD i RV.nil) := by
  have e : rs.take (i + 1) = rs.take i ++ [rs.getD i RV.nil] := by
    rw [List.take_add_one, List.getElem?_eq_getElem hi]
    simp [List.getD, hi]
  rw [e, tot_snoc]
/-- limbs of a sum -/
def kk (i : Nat) : Nat := 3 * 2 ^ i - 1
theorem kk_zero : kk 0 = 2 := rfl
theorem kk_succ (i : Nat) : kk (i + 1) = kk i + kk i + 1 := by
  unfold kk
  have : 0 < 2 ^ i := Nat.two_pow_pos i
  rw [Nat.pow_succ]; omega
theorem kk_two (i : Nat) : 2 ≤ kk i := by
  unfold kk
  have : 0 < 2 ^ i := Nat.two_pow_pos i
  omega
theorem kk_le {i : Nat} (hi : i ≤ 30) : kk i ≤ 3221225471 := by
  unfold kk
  have : 2 ^ i ≤ 2 ^ 30 := Nat.pow_le_pow_right (by omega) hi
  have e : (2 : Nat) ^ 30 = 1073741824 := rfl
  omega
/-- the box at g holds the number q -/
def TotAt (w : World) (g : Nat) (q : Rat) (k : Nat) : Prop :=
  ∃ s a n c o m d, w.heap[g]? = some (.cells #[.bool s, .slice a n c, .slice o m d] 33 (0, 0)) ∧ CQ (g + 1) w s a n c o m d q k
theorem TotAt.below {w w' : World} {g : Nat} {q : Rat} {k : Nat} (h : TotAt w g q k) (b : Below w.heap.size w w') : TotAt w' g q k := by
  obtain ⟨s, a, n, c, o, m, d, h1, h2⟩ := h
  exact ⟨s, a, n, c, o, m, d, carry h1 b, h2.below b⟩
theorem TotAt.lt {w : World} {g : Nat} {q : Rat} {k : Nat} (h : TotAt w g q k) : g < w.heap.size := by
  obtain ⟨s, a, n, c, o, m, d, h1, h2⟩ := h
  exact (Array.getElem?_eq_some_iff.1 h1).1

set_option maxHeartbeats 8000000 in
set_option maxRecDepth 100000 in
theorem rSum_q (f : RV → Rat) (ao : Option Addr) (cap : Nat) (us : List RV) (w : World) (h : RdR w ao cap us) (hl : us.length ≤ 30) (hf : ∀ u ∈ us, Is w u (f u)) :
    Calls Try.prog 14 #[.slice ao us.length cap] w (MakesQ (tot f us) (kk us.length) w) := by
  obtain ⟨n, hn⟩ : ∃ n, n = us.length := ⟨_, rfl⟩
  have a1 := h.1
  have a2 := h.2.1
  rw [← hn] at a1 hl ⊢
  have B1 := below_new w (.cells #[.bool false, .slice none 0 0, .slice none 0 0] 33)
  have y1 := heap_alloc_new w (.cells #[.bool false, .slice none 0 0, .slice none 0 0] 33)
  have s1 : (w.alloc (.cells #[.bool false, .slice none 0 0, .slice none 0 0] 33)).heap.size = w.heap.size + 1 := World.size_alloc _ _
  obtain ⟨W1, hW1⟩ : ∃ W1, W1 = w.alloc (.cells #[.bool false, .slice none 0 0, .slice none 0 0] 33) := ⟨_, rfl⟩
  rw [← hW1] at B1 y1 s1
  have B2 := B1.trans ((below_new W1 (.cells #[.bool false, .slice none 0 0, .slice none 0 0] 33)).mono B1.size)
  have y2 := carry y1 (below_new W1 (.cells #[.bool false, .slice none 0 0, .slice none 0 0] 33))
  have x2 := heap_alloc_new W1 (.cells #[.bool false, .slice none 0 0, .slice none 0 0] 33)
  obtain ⟨W2, hW2⟩ : ∃ W2, W2 = W1.alloc (.cells #[.bool false, .slice none 0 0, .slice none 0 0] 33) := ⟨_, rfl⟩
  rw [← hW2] at B2 y2 x2
  have s2 : W2.heap.size = w.heap.size + 1 + 1 := by rw [hW2, World.size_alloc, s1]
  obtain ⟨g, hg⟩ : ∃ g, g = w.heap.size + 1 := ⟨_, rfl⟩
  have HT : Hid (TotAt W2 g 0 2) := by unfold Hid; rw [hg, ← s1]; exact ⟨_, _, _, _, _, _, _, x2, cq_zero _ _ 2 (by omega) (by omega)⟩
  have hg0 : w.heap.size ≤ g := by omega
  have HH := Lib.hid h
  have HF : Hid (∀ u ∈ us, Is w u (f u)) := hf
  have HN := Lib.hid hn
  have HY := Lib.hid y2
  have HS : Hid (W2.heap.size = g + 1) := by unfold Hid; omega
  have HB := Lib.hid B2
  have HG := Lib.hid hg
  clear h hf hn B2 y2 x2 y1 B1 s1 s2
  go_enter Try.func14, Try.ntmps14
  go_wp2_with fail
  rw [← HG.out, ← hW1, ← hW2]
  clear hW1 hW2 hg
  go_loopw [9] (fun s9 wr => ∃ i : Nat, i ≤ n ∧ s9 = .int .i64 (i : Int) ∧ Hid (TotAt wr g (tot f (us.take i)) (kk i)) ∧ Hid (∀ B, B ≤ g → Below B W2 wr)) (fun s9 _ => n - (intOf s9).toNat)
  case atStart => exact ⟨0, by omega, rfl, HT.out, fun _ _ => Below.refl _ _⟩
  case round =>
    obtain ⟨i, hi, rfl, htot, hfr⟩ := hrel
    have hgs := htot.out.lt
    have hbl : Hid (Below w.heap.size w wr) := HB.out.trans (hfr.out _ hg0)
    obtain ⟨s, a, k, c, o', m, d, x0, cq⟩ := htot.out
    by_cases hlt : i < n
    · have hlt2 : (i : Int) < (n : Int) := by omega
      obtain ⟨b, o, rfl, hat⟩ := HH.out.at (by rw [← HN.out]; omega)
      obtain ⟨r, hre⟩ : ∃ r, r = us.getD i RV.nil := ⟨_, rfl⟩
      obtain ⟨c0, c1, c2⟩ := (hat i (by rw [← HN.out]; omega)).below hbl.out
      rw [← hre] at c0 c1 c2
      have hmem : r ∈ us := by
        rw [hre]
        have : i < us.length := by rw [← HN.out]; omega
        simp [List.getD, this]
      have n1 := below_new wr (.cells #[.bool r.s, .slice r.ao r.n r.ca, .slice r.bo r.m r.cb] 33)
      have B1 := hbl.out.trans (n1.mono hbl.out.size)
      have x1 := carry x0 n1
      have HA := Lib.hid (rAdd_q _ _ _ _ _ _ _ _ _ _ _ _ _ _ (kk i) _ (f r) _ (cq.below n1).rq (RQ.up ((HF.out r hmem).below B1) (kk_two i) (by have := kk_le (show i ≤ 30 by omega); omega)) (by have := kk_le (show i ≤ 30 by omega); omega))
      have HE : Hid (tot f (us.take (i + 1)) = tot f (us.take i) + f r) := by unfold Hid; rw [hre]; exact tot_take f us i (by rw [← HN.out]; omega)
      have HB1 := Lib.hid n1
      have X1 := Lib.hid x1
      obtain ⟨d0, d1, d2, _, _, _⟩ := at_block x0
      clear hat hre hmem n1 B1 x1 x0 cq
      go_wp2_with fail
      refine (HA.out).mono ?_; rintro e w2 ⟨s2, a2, n2, e2, o2, m2, f2, rfl, cq2, b2⟩
      have x2 := carry X1.out b2
      have hA : g < (wr.alloc (.cells #[.bool r.s, .slice r.ao r.n r.ca, .slice r.bo r.m r.cb] 33)).heap.size := (Array.getElem?_eq_some_iff.1 X1.out).1
      have HT2 : Hid (TotAt (((w2.setCell ⟨g, 0, none⟩ (.bool s2)).setCell ⟨g, 1, none⟩ (.slice a2 n2 e2)).setCell ⟨g, 2, none⟩ (.slice o2 m2 f2)) g (tot f (us.take (i + 1))) (kk (i + 1))) := by
        unfold Hid; rw [HE.out, kk_succ]
        exact ⟨s2, a2, n2, e2, o2, m2, f2, set3_at x2 _ _ _, (((cq2.mono (by omega)).set_at 0 _).set_at 1 _).set_at 2 _⟩
      have HB2 : Hid (∀ B, B ≤ g → Below B W2 (((w2.setCell ⟨g, 0, none⟩ (.bool s2)).setCell ⟨g, 1, none⟩ (.slice a2 n2 e2)).setCell ⟨g, 2, none⟩ (.slice o2 m2 f2))) := fun B hB => (hfr.out B hB).trans (below3 ((HB1.out.mono (by omega)).trans (b2.mono (by omega))) hB _ _ _)
      obtain ⟨u0, u1, u2, z0, z1, z2⟩ := at_block x2
      clear c0 c1 c2 d0 d1 d2 HA x2 X1 cq2 b2 HE HB1
      go_wp2_with fail
      go_roundw
      case rel => exact ⟨i + 1, by omega, by go_num, HT2, HB2⟩
      case measure => simp [intOf]; omega
    · obtain rfl : i = n := by omega
      have hlt2 : ¬ (i : Int) < (i : Int) := by omega
      have g3 : w.heap.size < W2.heap.size := by rw [HS.out]; omega
      have y3 := ((hfr.out g (Nat.le_refl _)).block w.heap.size (by have := HG.out; omega)).trans HY.out
      obtain ⟨u0, u1, u2, z0, z1, z2⟩ := at_block y3
      obtain ⟨v0, v1, v2, _, _, _⟩ := at_block x0
      rw [HN.out, List.take_length, ← HN.out] at cq
      rw [← HS.out] at cq
      have HQ := Lib.hid cq
      clear HY HB HS x0 y3 cq htot hfr HT HF HH
      go_wp2_with fail
      refine bodyPost_ret (v := .agg #[.bool s, .slice a k c, .slice o' m d]) (by simp [results, Try.results14, go_sem, u0, u1, u2]) rfl ?_
      exact MakesQ.lift HQ.out rfl g3 (Nat.le_refl _) hbl.out _ _ _
end Go.Proofs.Ytcnghhlchjcdhaa
