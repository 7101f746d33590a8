import Derived.Test.YtcnghhlchjcdhaaLists
import Derived.Test.YtcnghhlchjcdhaaRatsD
import Derived.Test.YtcnghhlchjcdhaaInts10
import Derived.Test.YtcnghhlchjcdhaaSmpAw
import Derived.Test.YtcnghhlchjcdhaaRatsC
/- make's Smalls of eight, fractions and signed numbers of a tape. -/
namespace Go.Proofs.Ytcnghhlchjcdhaa
open Go.RowKit

set_option maxHeartbeats 8000000 in
set_option maxRecDepth 100000 in
theorem Smalls8_any (ao : Option Addr) (cap : Nat) (rs : List RV) (w : World) (h : RdR w ao cap rs) (hr : ∀ r ∈ rs, Raw w r) :
    Calls Try.prog 5 #[.slice ao rs.length cap, .int .i64 8] w fun e w' => ∃ ro rc us, e = .returned (.slice ro us.length rc) ∧ us.length ≤ 8 ∧ RdR w' ro rc us ∧ (∀ u ∈ us, ∃ q, Is w' u q) ∧ Below w.heap.size w w' := by
  obtain ⟨i0, hi, hz0, hz1, hz2⟩ := info_partsr infoRatio
  obtain ⟨n, hn⟩ : ∃ n, n = rs.length := ⟨_, rfl⟩
  obtain ⟨N, hN⟩ : ∃ N, N = min n 8 := ⟨_, rfl⟩
  have mm : min (n : Int) 8 = (N : Int) := by omega
  have a1 := h.1
  have a2 := h.2.1
  rw [← hn] at a1
  have l0 : (0 : Int) ≤ (N : Int) := by omega
  have l1 : (N : Int) ≤ (cap : Int) := by omega
  have hN8 : N ≤ 8 := by omega
  have hNn : N ≤ n := by omega
  have HH := Lib.hid h
  have HR : Hid (∀ r ∈ rs, Raw w r) := hr
  have HN := Lib.hid hn
  rw [← hn]
  clear hN h hr hn
  go_enter Try.func5, Try.ntmps5
  go_wp2_with fail
  go_loopw [5, 15] (fun s5 s15 wr => ∃ (i : Nat) (us : List RV) (v : Value), i ≤ N ∧ s15 = .int .i64 (i : Int) ∧ v = s5 ∧ Hid (us.length = i) ∧ Hid (wr.ownsRow w.heap.size 33 3 v i (rvs us)) ∧ Hid (∀ u ∈ us, ∃ q, ∀ w', Below w.heap.size w w' → Is w' u q) ∧ Hid (Below w.heap.size w wr)) (fun _ s15 _ => N - (intOf s15).toNat)
  case atStart => exact ⟨0, [], _, by omega, rfl, rfl, rfl, World.ownsRow_nil _ _ _ _, fun z hz => by simp at hz, Below.refl _ _⟩
  case round =>
    obtain ⟨i, us, v, hiN, rfl, rfl, hl, hown, hus, hbl⟩ := hrel
    by_cases hlt : i < N
    · have hlt2 : (i : Int) < (N : Int) := by omega
      obtain ⟨b, o, rfl, hat⟩ := HH.out.at (by rw [← HN.out]; omega)
      obtain ⟨r, hre⟩ : ∃ r, r = rs.getD i RV.nil := ⟨_, rfl⟩
      obtain ⟨c0, c1, c2⟩ := (hat i (by rw [← HN.out]; omega)).below hbl.out
      rw [← hre] at c0 c1 c2
      have hmem : r ∈ rs := by
        rw [hre]
        have : i < rs.length := by rw [← HN.out]; omega
        simp [List.getD, this]
      obtain ⟨r', q, hq, hc⟩ := Small_rv r w (HR.out r hmem)
      have HQ := Lib.hid hq
      have HC := Lib.hid hc
      clear hat hre hmem hq hc
      go_wp2_with fail
      have n1 := below_new wr (.cells #[.bool r.s, .slice r.ao r.n r.ca, .slice r.bo r.m r.cb] 33)
      refine (HC.out _ (hbl.out.trans (n1.mono hbl.out.size))).mono ?_; rintro e w2 ⟨rfl, b2⟩
      have g2 : Below wr.heap.size wr w2 := n1.trans (b2.mono n1.size)
      have hown2 := hown.out.kept (below_grown g2) (by cases v.ownBlock with | none => exact .inl rfl | some k => exact .inr (by simp))
      have HG2 := Lib.hid g2
      have HO := Lib.hid hown2
      have hwz : w.heap.size ≤ w2.heap.size := Nat.le_trans hbl.out.size g2.size
      clear n1 b2 g2 hown2 c0 c1 c2 HC
      go_wp2_with (at_builtin; refine wpList_append_own _ rfl _ _ 22 rfl w.heap.size 33 i0 (.agg #[.bool false, .slice none 0 0, .slice none 0 0]) 3 56 Try.underlying22 hi hz0 hz1 hz2 rfl (by omega) _ _ _ rfl (HO.out.alloc _) ⟨w2.heap.size, 0, none⟩ 1 1 [.bool r'.s, .slice r'.ao r'.n r'.ca, .slice r'.bo r'.m r'.cb] rfl rfl (three_cell _ _ _ _ _) (by intro u hu; simp at hu; rcases hu with rfl | rfl | rfl <;> rfl) (by unfold maxLen; omega) (by omega) (by simp; omega) ?_; intro v3 w3 hown3 hgr3 _)
      have hb3 : Below w.heap.size w w3 := by
        have hA := below_new w2 (.cells #[.bool r'.s, .slice r'.ao r'.n r'.ca, .slice r'.bo r'.m r'.cb] 33)
        refine hbl.out.trans ((HG2.out.mono hbl.out.size).trans ((hA.mono hwz).trans ?_))
        exact rows_below (HO.out.alloc _) (Nat.le_refl _) (by simp; omega) hgr3
      have HB3 := Lib.hid hb3
      have HO3 : Hid (w3.ownsRow w.heap.size 33 3 v3 (i + 1) (rvs (us ++ [r']))) := by unfold Hid; rw [rvs_append]; exact hown3
      have HU3 : Hid (∀ u ∈ us ++ [r'], ∃ q, ∀ w', Below w.heap.size w w' → Is w' u q) := fun u hu => by
        rcases List.mem_append.1 hu with hu | hu
        · exact hus.out u hu
        · simp at hu; subst hu; exact ⟨q, HQ.out⟩
      have HL3 : Hid ((us ++ [r']).length = i + 1) := by unfold Hid; rw [List.length_append, hl.out]; rfl
      clear hb3 hown3 hgr3
      go_wp2_with fail
      go_roundw
      case rel => exact ⟨i + 1, _, _, by omega, by go_num, rfl, HL3, HO3, HU3, HB3⟩
      case measure => simp [intOf]; omega
    · obtain rfl : i = N := by omega
      have hlt2 : ¬ (i : Int) < (i : Int) := by omega
      go_wp2_with fail
      obtain ⟨ro, rc, rfl, hrd⟩ := RdR.of_row hown.out
      go_ret
      exact ⟨ro, rc, us, rfl, by rw [hl.out]; omega, hrd, fun u hu => (hus.out u hu).imp fun q hq => hq _ hbl.out, hbl.out⟩

set_option maxHeartbeats 8000000 in
set_option maxRecDepth 100000 in
theorem mFracS (i j : Int) (hi0 : -1000 ≤ i) (hi1 : i ≤ 1000) (hj0 : 1 ≤ j) (hj1 : j ≤ 1000) (w : World) : Calls Try.prog 23 #[.int .i64 i, .int .i64 j] w (MakesQ (rq (decide (i < 0) != decide (j < 0)) i.natAbs j.natAbs) 2 w) := by
  have bz := below_new w (.cells #[.bool false, .slice none 0 0, .slice none 0 0] 33)
  have xz := heap_alloc_new w (.cells #[.bool false, .slice none 0 0, .slice none 0 0] 33)
  obtain ⟨W1, hW1⟩ : ∃ W, W = w.alloc (.cells #[.bool false, .slice none 0 0, .slice none 0 0] 33) := ⟨_, rfl⟩
  rw [← hW1] at bz xz
  obtain ⟨q, hq⟩ : ∃ q, q = rq (decide (i < 0) != decide (j < 0)) i.natAbs j.natAbs := ⟨_, rfl⟩
  rw [← hq]
  have FR : Hid (∀ w', Calls Try.prog 42 #[.int .i64 i, .int .i64 j] w' (MakesE q 2 w')) := fun w' => by rw [hq]; exact rFraction_q i j (by omega) (by omega) (by omega) (by omega) (by omega) w'
  have B1 := Lib.hid bz
  have X1 := Lib.hid xz
  clear hq
  clear bz xz
  go_enter Try.func23, Try.ntmps23
  go_wp2_with fail
  rw [← hW1]
  clear hW1
  refine (FR.out _).mono ?_; rintro e W2 ⟨s2, a2, n2, c2, o2, m2, d2, rfl, cq2, b2⟩
  have n3 := below_new W2 (.cells #[.bool s2, .slice a2 n2 c2, .slice o2 m2 d2] 33)
  have y3 := heap_alloc_new W2 (.cells #[.bool s2, .slice a2 n2 c2, .slice o2 m2 d2] 33)
  have x3 := carry (carry X1.out b2) n3
  have B3 := (B1.out.trans (b2.mono B1.out.size)).trans (n3.mono (Nat.le_trans B1.out.size b2.size))
  have cq3 := cq2.below n3
  have hlt : w.heap.size < W1.heap.size := (Array.getElem?_eq_some_iff.1 X1.out).1
  obtain ⟨W3, hW3⟩ : ∃ W, W = W2.alloc (.cells #[.bool s2, .slice a2 n2 c2, .slice o2 m2 d2] 33) := ⟨_, rfl⟩
  rw [← hW3] at y3 x3 B3 cq3
  obtain ⟨q0, q1, q2, z0, z1, z2⟩ := at_block x3
  obtain ⟨f0, f1, f2, _⟩ := at_block y3
  have C3 := Lib.hid cq3
  have HB3 := Lib.hid B3
  clear n3 b2 cq2 cq3 x3 y3 B3
  go_upto_region 2 with fail
  rw [← hW3]
  clear hW3
  go_wp2_with fail
  refine bodyPost_ret (v := .agg #[.bool s2, .slice a2 n2 c2, .slice o2 m2 d2]) (by simp [results, Try.results23, go_sem, q0, q1, q2]) rfl ?_
  exact MakesQ.lift C3.out rfl hlt (Nat.le_refl _) HB3.out _ _ _
end Go.Proofs.Ytcnghhlchjcdhaa
/- Signed numbers of a tape. -/
namespace Go.Proofs.Ytcnghhlchjcdhaa
open Go.RowKit
open Go.Sort C6
theorem rd_gbE {w w' : World} {B : Nat} {ao : Option Addr} {cap : Nat} {vs : List Value} (h : RdV w ao cap vs) (hb : 0 < vs.length → ∀ b o, ao = some ⟨b, o, none⟩ → b < B) (hB : B ≤ w.heap.size) (g : w.grownBy w' (some B)) : RdV w' ao cap vs := h.keep hb (gb_below g hB)
theorem gb_far3E {w w2 : World} {row : Option Nat} {g : Nat} (h : w.grownBy w2 row) (hg : w.heap.size ≤ g) (u v x : Value) : w.grownBy (((w2.setCell ⟨g, 0, none⟩ u).setCell ⟨g, 1, none⟩ v).setCell ⟨g, 2, none⟩ x) row := by
  refine ⟨h.os, h.tape, h.output, ?_, fun b hb hne => (set3_off (by omega) _ _ _).trans (h.block b hb hne)⟩
  have := h.size
  simpa [World.setCell] using this
def SgPost (w : World) (B : Nat) (ao : Option Addr) (n cap i : Nat) (e : Ending) (w' : World) : Prop := ∃ s a l c o m d q, e = .returned (.agg #[.bool s, .slice a l c, .slice o m d]) ∧ CQ w.heap.size w' s a l c o m d q 2 ∧ w.grownBy w' (some B) ∧ Tap w' B ao n cap (i + 2)

set_option maxHeartbeats 8000000 in
set_option maxRecDepth 100000 in
theorem Signed_v (B : Nat) (ao : Option Addr) (cap : Nat) (ts : List Int) (i : Nat) (w : World) (hb : Tap w B ao ts.length cap i) (ht : RdZ w ao cap ts) (htB : 0 < (intz ts).length → ∀ b o, ao = some ⟨b, o, none⟩ → b < B) (hi : i ≤ 900) :
    Calls Try.prog 8 #[.pointer (some ⟨B, 0, none⟩)] w (SgPost w B ao ts.length cap i) := by
  obtain ⟨W1, hW1⟩ : ∃ W, W = w.alloc (.cells #[.bool false, .slice none 0 0, .slice none 0 0] 33) := ⟨_, rfl⟩
  have hBl := hb.lt
  have T1 : Tap W1 B ao ts.length cap i := by rw [hW1]; exact hb.alloc _
  have B1 : Below w.heap.size w W1 := by rw [hW1]; exact below_new _ _
  have s1 : W1.heap.size = w.heap.size + 1 := by rw [hW1]; exact World.size_alloc _ _
  have g1 : w.grownBy W1 (some B) := below_gb B1 _
  have R1 : RdZ W1 ao cap ts := rd_gbE ht htB (Nat.le_of_lt hBl) g1
  have x1 : W1.heap[w.heap.size]? = some (.cells #[.bool false, .slice none 0 0, .slice none 0 0] 33 (0, 0)) := by rw [hW1]; exact heap_alloc_new _ _
  have HT1 := Lib.hid T1
  have HR1 := Lib.hid R1
  have HG1 := Lib.hid g1
  have HX1 := Lib.hid x1
  have HTB := Lib.hid htB
  have HS1 := Lib.hid s1
  clear hb ht htB T1 R1 g1 x1 B1 s1
  go_enter Try.func8, Try.ntmps8
  go_wp2_with fail
  rw [← hW1]
  clear hW1
  refine (Next_v B ao cap ts i 21 _ HT1.out HR1.out (by omega) (by omega) (by omega) 21 rfl).mono ?_; rintro e w2 ⟨r1, rfl, hr1, g2, z2, t2⟩
  have HT2 := Lib.hid t2
  have HR2 := Lib.hid (rd_gbE HR1.out HTB.out (Nat.le_of_lt HT1.out.lt) g2)
  have HX2 := Lib.hid ((g2.block _ (Array.getElem?_eq_some_iff.1 HX1.out).1 (by simp; omega)).trans HX1.out)
  have HG2 := Lib.hid (gb_trans HG1.out g2)
  clear g2 z2 t2
  obtain ⟨x, hx⟩ : ∃ x : Int, x = (r1 : Int) - 10 := ⟨_, rfl⟩
  have hx0 : -10 ≤ x := by omega
  have hx1 : x ≤ 10 := by omega
  have hxi : (r1 : Int) - 10 = x := hx.symm
  have hxw : IntKind.i64.wrap x = x := IntWalk.i64_in _ (by omega)
  clear hx hr1
  go_wp2_with fail
  refine (Next_v B ao cap ts (i + 1) 5 _ HT2.out HR2.out (by omega) (by omega) (by omega) 5 rfl).mono ?_; rintro e w3 ⟨r2, rfl, hr2, g3, z3, t3⟩
  have HT3 := Lib.hid t3
  have HX3 := Lib.hid ((g3.block _ (Array.getElem?_eq_some_iff.1 HX2.out).1 (by simp; omega)).trans HX2.out)
  have HG3 := Lib.hid (gb_trans HG2.out g3)
  clear g3 z3 t3
  obtain ⟨y, hy⟩ : ∃ y : Nat, y = 1 + r2 := ⟨_, rfl⟩
  have hy1 : 1 ≤ y := by omega
  have hyb : y ≤ 5 := by omega
  have hyi : 1 + (r2 : Int) = (y : Int) := by omega
  have hyw : IntKind.i64.wrap (y : Int) = (y : Int) := IntWalk.i64_in _ (by omega)
  have FQ := Lib.hid (mFracS x (y : Int) (by omega) (by omega) (by omega) (by omega) w3)
  clear hy hr2
  go_wp2_with fail
  refine FQ.out.mono ?_; rintro e w4 ⟨s, a, l, c, o, m, d, rfl, cq, b4⟩
  have x4 := carry HX3.out b4
  have g4 := gb_trans HG3.out (below_gb b4 (some B))
  have t4 := HT3.out.keep b4
  obtain ⟨q0, q1, q2, z0, z1, z2⟩ := at_block x4
  have hsw : w.heap.size < w3.heap.size := (Array.getElem?_eq_some_iff.1 HX3.out).1
  have HC := Lib.hid (cq.mono (B' := w.heap.size + 1) (by omega))
  have HG4 := Lib.hid g4
  have HT4 := Lib.hid t4
  clear x4 g4 t4 cq b4
  go_wp2_with fail
  refine bodyPost_ret (v := .agg #[.bool s, .slice a l c, .slice o m d]) (by simp [results, Try.results8, go_sem, q0, q1, q2]) rfl ?_
  refine ⟨s, a, l, c, o, m, d, _, rfl, (((HC.out.set_at _ _).set_at _ _).set_at _ _).mono (by omega), gb_far3E HG4.out (Nat.le_refl _) _ _ _, ?_⟩
  have := HT4.out
  unfold Tap at this ⊢
  rw [set3_off (by omega)]
  exact this
end Go.Proofs.Ytcnghhlchjcdhaa
/- Lists of numbers by their values: their sum by the code and by the reference, for any limbs. -/
namespace Go.Proofs.Ytcnghhlchjcdhaa
open Go.RowKit

/-- a number of a list stands for q, of k limbs -/
def IsK (w : World) (r : RV) (q : Rat) (k : Nat) : Prop := RQ w r.s r.ao r.n r.ca r.bo r.m r.cb q k
theorem IsK.below {w w' : World} {r : RV} {q : Rat} {k : Nat} (h : IsK w r q k) (g : Below w.heap.size w w') : IsK w' r q k := RQ.below h g
/-- the numbers stand for qs -/
def Ls (w : World) (rs : List RV) (qs : List Rat) (k : Nat) : Prop := rs.length = qs.length ∧ ∀ i, i < rs.length → IsK w (rs.getD i RV.nil) (qs.getD i 0) k
theorem Ls.below {w w' : World} {rs : List RV} {qs : List Rat} {k : Nat} (h : Ls w rs qs k) (g : Below w.heap.size w w') : Ls w' rs qs k := ⟨h.1, fun i hi => (h.2 i hi).below g⟩
theorem getD_snoc_lt {α : Type} (l : List α) (x d : α) (i : Nat) (hi : i < l.length) : (l ++ [x]).getD i d = l.getD i d := by
  simp [List.getD, List.getElem?_append_left hi]
theorem getD_snoc_eq {α : Type} (l : List α) (x d : α) : (l ++ [x]).getD l.length d = x := by
  simp [List.getD]
theorem Ls.snoc {w : World} {rs : List RV} {qs : List Rat} {k : Nat} {r : RV} {q : Rat} (h : Ls w rs qs k) (hr : IsK w r q k) : Ls w (rs ++ [r]) (qs ++ [q]) k := by
  refine ⟨by simp [h.1], fun i hi => ?_⟩
  by_cases e : i < rs.length
  · rw [getD_snoc_lt _ _ _ _ e, getD_snoc_lt _ _ _ _ (by rw [← h.1]; exact e)]
    exact h.2 i e
  · have e2 : i = rs.length := by simp at hi; omega
    rw [e2, getD_snoc_eq, h.1, getD_snoc_eq]
    exact hr
theorem Ls.of_all {w : World} {us : List RV} (h : ∀ u ∈ us, ∃ q, Is w u q) : ∃ qs, Ls w us qs 2 := by
  induction us with
  | nil => exact ⟨[], rfl, fun i hi => by simp at hi⟩
  | cons u us ih =>
    obtain ⟨qs, h1, h2⟩ := ih (fun v hv => h v (List.mem_cons_of_mem _ hv))
    obtain ⟨q, hq⟩ := h u (List.mem_cons_self)
    refine ⟨q :: qs, by simp [h1], fun i hi => ?_⟩
    cases i with
    | zero => exact hq
    | succ i => simpa [List.getD] using h2 i (by simpa using hi)
def qsum : List Rat → Rat
  | [] => 0
  | q :: qs => q + qsum qs
theorem qsum_snoc (qs : List Rat) (q : Rat) : qsum (qs ++ [q]) = qsum qs + q := by
  induction qs with
  | nil => simp [qsum, Rat.add_zero, Rat.zero_add]
  | cons a qs ih => simp [qsum, ih, Rat.add_assoc]
theorem take_snoc {α : Type} (l : List α) (d : α) (i : Nat) (hi : i < l.length) : l.take (i + 1) = l.take i ++ [l.getD i d] := by
  rw [List.take_add_one, List.getElem?_eq_getElem hi]
  simp [List.getD, hi]
theorem qsum_take (qs : List Rat) (i : Nat) (hi : i < qs.length) : qsum (qs.take (i + 1)) = qsum (qs.take i) + qs.getD i 0 := by
  rw [take_snoc qs 0 i hi, qsum_snoc]
/-- limbs of a sum of numbers of k limbs -/
def kq (k i : Nat) : Nat := (k + 1) * 2 ^ i - 1
theorem kq_zero (k : Nat) : kq k 0 = k := by simp [kq]
theorem kq_succ (k i : Nat) : kq k (i + 1) = kq k i + kq k i + 1 := by
  unfold kq
  have : 0 < (k + 1) * 2 ^ i := Nat.mul_pos (by omega) (Nat.two_pow_pos i)
  rw [Nat.pow_succ, ← Nat.mul_assoc]; omega
theorem kq_ge (k i : Nat) : k ≤ kq k i := by
  unfold kq
  have : (k + 1) * 1 ≤ (k + 1) * 2 ^ i := Nat.mul_le_mul_left _ (Nat.two_pow_pos i)
  omega
theorem kq_le {k i : Nat} (hk : k ≤ 1000) (hi : i ≤ 12) : kq k i ≤ 4100096 := by
  unfold kq
  have h1 : 2 ^ i ≤ 2 ^ 12 := Nat.pow_le_pow_right (by omega) hi
  have h2 : (k + 1) * 2 ^ i ≤ 1001 * 2 ^ 12 := Nat.mul_le_mul (by omega) h1
  have e : (2 : Nat) ^ 12 = 4096 := rfl
  omega

set_option maxHeartbeats 8000000 in
set_option maxRecDepth 100000 in
theorem rSum_k (k0 : Nat) (hk0 : 1 ≤ k0) (hk1 : k0 ≤ 1000) (qs : List Rat) (ao : Option Addr) (cap : Nat) (us : List RV) (w : World) (h : RdR w ao cap us) (hl : us.length ≤ 12) (hf : Ls w us qs k0) :
    Calls Try.prog 14 #[.slice ao us.length cap] w (MakesQ (qsum qs) (kq k0 us.length) w) := by
  obtain ⟨n, hn⟩ : ∃ n, n = us.length := ⟨_, rfl⟩
  have a1 := h.1
  have a2 := h.2.1
  rw [← hn] at a1 hl ⊢
  have B1 := below_new w (.cells #[.bool false, .slice none 0 0, .slice none 0 0] 33)
  have y1 := heap_alloc_new w (.cells #[.bool false, .slice none 0 0, .slice none 0 0] 33)
  have s1 : (w.alloc (.cells #[.bool false, .slice none 0 0, .slice none 0 0] 33)).heap.size = w.heap.size + 1 := World.size_alloc _ _
  obtain ⟨W1, hW1⟩ : ∃ W1, W1 = w.alloc (.cells #[.bool false, .slice none 0 0, .slice none 0 0] 33) := ⟨_, rfl⟩
  rw [← hW1] at B1 y1 s1
  have B2 := B1.trans ((below_new W1 (.cells #[.bool false, .slice none 0 0, .slice none 0 0] 33)).mono B1.size)
  have y2 := carry y1 (below_new W1 (.cells #[.bool false, .slice none 0 0, .slice none 0 0] 33))
  have x2 := heap_alloc_new W1 (.cells #[.bool false, .slice none 0 0, .slice none 0 0] 33)
  obtain ⟨W2, hW2⟩ : ∃ W2, W2 = W1.alloc (.cells #[.bool false, .slice none 0 0, .slice none 0 0] 33) := ⟨_, rfl⟩
  rw [← hW2] at B2 y2 x2
  have s2 : W2.heap.size = w.heap.size + 1 + 1 := by rw [hW2, World.size_alloc, s1]
  obtain ⟨g, hg⟩ : ∃ g, g = w.heap.size + 1 := ⟨_, rfl⟩
  have HT : Hid (TotAt W2 g 0 k0) := by unfold Hid; rw [hg, ← s1]; exact ⟨_, _, _, _, _, _, _, x2, cq_zero _ _ k0 (by omega) (by omega)⟩
  have hg0 : w.heap.size ≤ g := by omega
  have HH := Lib.hid h
  have HF := Lib.hid hf
  have HN := Lib.hid hn
  have HY := Lib.hid y2
  have HS : Hid (W2.heap.size = g + 1) := by unfold Hid; omega
  have HB := Lib.hid B2
  have HG := Lib.hid hg
  clear h hf hn B2 y2 x2 y1 B1 s1 s2
  go_enter Try.func14, Try.ntmps14
  go_wp2_with fail
  rw [← HG.out, ← hW1, ← hW2]
  clear hW1 hW2 hg
  go_loopw [9] (fun s9 wr => ∃ i : Nat, i ≤ n ∧ s9 = .int .i64 (i : Int) ∧ Hid (TotAt wr g (qsum (qs.take i)) (kq k0 i)) ∧ Hid (∀ B, B ≤ g → Below B W2 wr)) (fun s9 _ => n - (intOf s9).toNat)
  case atStart => exact ⟨0, by omega, rfl, by rw [kq_zero]; exact HT.out, fun _ _ => Below.refl _ _⟩
  case round =>
    obtain ⟨i, hi, rfl, htot, hfr⟩ := hrel
    have hgs := htot.out.lt
    have hbl : Hid (Below w.heap.size w wr) := HB.out.trans (hfr.out _ hg0)
    obtain ⟨s, a, k, c, o', m, d, x0, cq⟩ := htot.out
    by_cases hlt : i < n
    · have hlt2 : (i : Int) < (n : Int) := by omega
      obtain ⟨b, o, rfl, hat⟩ := HH.out.at (by rw [← HN.out]; omega)
      obtain ⟨r, hre⟩ : ∃ r, r = us.getD i RV.nil := ⟨_, rfl⟩
      obtain ⟨c0, c1, c2⟩ := (hat i (by rw [← HN.out]; omega)).below hbl.out
      rw [← hre] at c0 c1 c2
      have hmem : IsK w r (qs.getD i 0) k0 := by rw [hre]; exact HF.out.2 i (by rw [← HN.out]; omega)
      obtain ⟨x, hx⟩ : ∃ x, x = qs.getD i 0 := ⟨_, rfl⟩
      rw [← hx] at hmem
      have n1 := below_new wr (.cells #[.bool r.s, .slice r.ao r.n r.ca, .slice r.bo r.m r.cb] 33)
      have B1 := hbl.out.trans (n1.mono hbl.out.size)
      have x1 := carry x0 n1
      have HA := Lib.hid (rAdd_q _ _ _ _ _ _ _ _ _ _ _ _ _ _ (kq k0 i) _ x _ (cq.below n1).rq (RQ.up (hmem.below B1) (kq_ge k0 i) (by have := kq_le hk1 (show i ≤ 12 by omega); omega)) (by have := kq_le hk1 (show i ≤ 12 by omega); omega))
      have HE : Hid (qsum (qs.take (i + 1)) = qsum (qs.take i) + x) := by unfold Hid; rw [hx]; exact qsum_take qs i (by rw [← HF.out.1, ← HN.out]; omega)
      have HB1 := Lib.hid n1
      have X1 := Lib.hid x1
      obtain ⟨d0, d1, d2, _, _, _⟩ := at_block x0
      clear hat hre hmem hx n1 B1 x1 x0 cq
      go_wp2_with fail
      refine (HA.out).mono ?_; rintro e w2 ⟨s2, a2, n2, e2, o2, m2, f2, rfl, cq2, b2⟩
      have x2 := carry X1.out b2
      have hA : g < (wr.alloc (.cells #[.bool r.s, .slice r.ao r.n r.ca, .slice r.bo r.m r.cb] 33)).heap.size := (Array.getElem?_eq_some_iff.1 X1.out).1
      have HT2 : Hid (TotAt (((w2.setCell ⟨g, 0, none⟩ (.bool s2)).setCell ⟨g, 1, none⟩ (.slice a2 n2 e2)).setCell ⟨g, 2, none⟩ (.slice o2 m2 f2)) g (qsum (qs.take (i + 1))) (kq k0 (i + 1))) := by
        unfold Hid; rw [HE.out, kq_succ]
        exact ⟨s2, a2, n2, e2, o2, m2, f2, set3_at x2 _ _ _, (((cq2.mono (by omega)).set_at 0 _).set_at 1 _).set_at 2 _⟩
      have HB2 : Hid (∀ B, B ≤ g → Below B W2 (((w2.setCell ⟨g, 0, none⟩ (.bool s2)).setCell ⟨g, 1, none⟩ (.slice a2 n2 e2)).setCell ⟨g, 2, none⟩ (.slice o2 m2 f2))) := fun B hB => (hfr.out B hB).trans (below3 ((HB1.out.mono (by omega)).trans (b2.mono (by omega))) hB _ _ _)
      obtain ⟨u0, u1, u2, z0, z1, z2⟩ := at_block x2
      clear c0 c1 c2 d0 d1 d2 HA x2 X1 cq2 b2 HE HB1
      go_wp2_with fail
      go_roundw
      case rel => exact ⟨i + 1, by omega, by go_num, HT2, HB2⟩
      case measure => simp [intOf]; omega
    · obtain rfl : i = n := by omega
      have hlt2 : ¬ (i : Int) < (i : Int) := by omega
      have g3 : w.heap.size < W2.heap.size := by rw [HS.out]; omega
      have y3 := ((hfr.out g (Nat.le_refl _)).block w.heap.size (by have := HG.out; omega)).trans HY.out
      obtain ⟨u0, u1, u2, z0, z1, z2⟩ := at_block y3
      obtain ⟨v0, v1, v2, _, _, _⟩ := at_block x0
      rw [HN.out, HF.out.1, List.take_length, ← HF.out.1, ← HN.out] at cq
      rw [← HS.out] at cq
      have HQ := Lib.hid cq
      clear HY HB HS x0 y3 cq htot hfr HT HF HH
      go_wp2_with fail
      refine bodyPost_ret (v := .agg #[.bool s, .slice a k c, .slice o' m d]) (by simp [results, Try.results14, go_sem, u0, u1, u2]) rfl ?_
      exact MakesQ.lift HQ.out rfl g3 (Nat.le_refl _) hbl.out _ _ _
end Go.Proofs.Ytcnghhlchjcdhaa
/- Rows of numbers of one's own: their limbs lie in other blocks. What Estimate gives. -/
namespace Go.Proofs.Ytcnghhlchjcdhaa
open Go.RowKit

/-- a number's limbs lie in no block of a row of numbers -/
theorem Fr.keepRow3 {B base n : Nat} {w w' : World} {ao : Option Addr} {ca : Nat} {xs : List Nat} {v : Value} {vs : List Value} (h : Fr B w ao ca xs) (ho : w.ownsRow base 33 3 v n vs) (g : w.grownBy w' v.ownBlock) : Fr B w' ao ca xs := by
  obtain ⟨h1, h2, h3, h4⟩ := h
  refine ⟨h1, h2, h3, ?_⟩
  rcases h4 with h4 | ⟨b, e, hb, hw⟩
  · exact .inl h4
  · refine .inr ⟨b, e, hb, hw.grown g ?_⟩
    rcases ho.2 with ⟨rfl, _⟩ | ⟨k, cap, cur, rfl, _, hk, _⟩
    · intro q; cases q
    · intro q
      have : b = k := Option.some.inj q
      subst this
      obtain ⟨cur', h5, _⟩ := hw
      rw [h5] at hk
      cases hk
theorem CQ.keepRow3 {B base l : Nat} {w w' : World} {v : Value} {vs : List Value} {s : Bool} {ao : Option Addr} {n ca : Nat} {bo : Option Addr} {m cb : Nat} {q : Rat} {k : Nat} (h : CQ B w s ao n ca bo m cb q k) (ho : w.ownsRow base 33 3 v l vs) (g : w.grownBy w' v.ownBlock) : CQ B w' s ao n ca bo m cb q k := by
  obtain ⟨h1, h2, h3, h4, h5, h6⟩ := h
  exact ⟨h1, h2, h3, h4.keepRow3 ho g, h5.keepRow3 ho g, h6⟩
/-- the numbers of a row are qs, in canonical form -/
def Lc (Bs : Nat) (w : World) (rs : List RV) (qs : List Rat) (k : Nat) : Prop := rs.length = qs.length ∧ ∀ i, i < rs.length → CQ Bs w (rs.getD i RV.nil).s (rs.getD i RV.nil).ao (rs.getD i RV.nil).n (rs.getD i RV.nil).ca (rs.getD i RV.nil).bo (rs.getD i RV.nil).m (rs.getD i RV.nil).cb (qs.getD i 0) k
theorem Lc.nil (Bs : Nat) (w : World) (k : Nat) : Lc Bs w [] [] k := ⟨rfl, fun i hi => by simp at hi⟩
theorem Lc.ls {Bs : Nat} {w : World} {rs : List RV} {qs : List Rat} {k : Nat} (h : Lc Bs w rs qs k) : Ls w rs qs k := ⟨h.1, fun i hi => (h.2 i hi).rq⟩
theorem Lc.below {Bs : Nat} {w w' : World} {rs : List RV} {qs : List Rat} {k : Nat} (h : Lc Bs w rs qs k) (g : Below w.heap.size w w') : Lc Bs w' rs qs k := ⟨h.1, fun i hi => (h.2 i hi).below g⟩
theorem Lc.keepRow {Bs base l : Nat} {w w' : World} {v : Value} {vs : List Value} {rs : List RV} {qs : List Rat} {k : Nat} (h : Lc Bs w rs qs k) (ho : w.ownsRow base 33 3 v l vs) (g : w.grownBy w' v.ownBlock) : Lc Bs w' rs qs k := ⟨h.1, fun i hi => (h.2 i hi).keepRow3 ho g⟩
theorem Lc.snoc {Bs : Nat} {w : World} {rs : List RV} {qs : List Rat} {k : Nat} {r : RV} {q : Rat} (h : Lc Bs w rs qs k) (hr : CQ Bs w r.s r.ao r.n r.ca r.bo r.m r.cb q k) : Lc Bs w (rs ++ [r]) (qs ++ [q]) k := by
  refine ⟨by simp [h.1], fun i hi => ?_⟩
  by_cases e : i < rs.length
  · rw [getD_snoc_lt _ _ _ _ e, getD_snoc_lt _ _ _ _ (by rw [← h.1]; exact e)]
    exact h.2 i e
  · have e2 : i = rs.length := by simp at hi; omega
    rw [e2, getD_snoc_eq, h.1, getD_snoc_eq]
    exact hr

theorem Lc.gb {Bs : Nat} {w w' : World} {rs : List RV} {qs : List Rat} {k B : Nat} (h : Lc Bs w rs qs k) (hB : B < Bs) (g : w.grownBy w' (some B)) : Lc Bs w' rs qs k := ⟨h.1, fun i hi => by
  obtain ⟨h1, h2, h3, h4, h5, h6⟩ := h.2 i hi
  have key : ∀ {ao : Option Addr} {ca : Nat} {xs : List Nat}, Fr Bs w ao ca xs → Fr Bs w' ao ca xs := fun hf => hf.grown g (fun a e q => by
    rcases hf.2.2.2 with ⟨h, _⟩ | ⟨b, h, hb, _⟩
    · rw [e] at h; cases h
    · rw [e] at h; cases h
      have := Option.some.inj q
      simp at this; omega)
  exact ⟨h1, h2, h3, key h4, key h5, h6⟩⟩
theorem Lc.mono {Bs Bs' : Nat} {w : World} {rs : List RV} {qs : List Rat} {k : Nat} (h : Lc Bs w rs qs k) (hB : Bs' ≤ Bs) : Lc Bs' w rs qs k := ⟨h.1, fun i hi => (h.2 i hi).mono hB⟩

/-- a probability: above 0 and at most 1 -/
def goodp (p : Rat) : Bool := decide (0 < sgn p) && decide (cq p 1 ≤ 0)
def estE (qs ps : List Rat) : Int := if qs.length = 0 ∨ qs.length ≠ ps.length then 104 else if ps.all goodp then 0 else 105
def estL (qs ps : List Rat) : List Rat := qs.zipWith (· / ·) ps
def estQ (qs ps : List Rat) : Rat := if estE qs ps = 0 then qsum (estL qs ps) else 0
def EstPost (er : Int) (q : Rat) (w : World) (e : Ending) (w' : World) : Prop := ∃ k s a n c o m d, e = .returned (.tuple #[.agg #[.bool s, .slice a n c, .slice o m d], .int .i64 er]) ∧ CQ w.heap.size w' s a n c o m d q k ∧ Below w.heap.size w w'
theorem est_list {qs ps : List Rat} (h : qs.length = 0 ∨ qs.length ≠ ps.length) : estE qs ps = 104 ∧ estQ qs ps = 0 := by
  have e : estE qs ps = 104 := by unfold estE; rw [if_pos h]
  exact ⟨e, by unfold estQ; rw [e, if_neg (by decide)]⟩
theorem est_bad {qs ps : List Rat} {i : Nat} (h0 : 1 ≤ qs.length) (h : qs.length = ps.length) (hi : i < ps.length) (hb : goodp (ps.getD i 0) = false) : estE qs ps = 105 ∧ estQ qs ps = 0 := by
  have e : estE qs ps = 105 := by
    unfold estE
    rw [if_neg (by omega), if_neg]
    intro ha
    have := List.all_eq_true.1 ha (ps.getD i 0) (by simp [List.getD, hi])
    rw [hb] at this; cases this
  exact ⟨e, by unfold estQ; rw [e, if_neg (by decide)]⟩
theorem est_good {qs ps : List Rat} (h0 : 1 ≤ qs.length) (h : qs.length = ps.length) (hg : ∀ i, i < ps.length → goodp (ps.getD i 0) = true) : estE qs ps = 0 ∧ estQ qs ps = qsum (estL qs ps) := by
  have e : estE qs ps = 0 := by
    unfold estE
    rw [if_neg (by omega), if_pos]
    rw [List.all_eq_true]
    intro x hx
    obtain ⟨i, hi, rfl⟩ := List.mem_iff_getElem.1 hx
    have := hg i hi
    simpa [List.getD, hi] using this
  exact ⟨e, by unfold estQ; rw [e, if_pos rfl]⟩
theorem good_ne {p : Rat} (h : goodp p = true) : p ≠ 0 := by
  intro e
  subst e
  simp [goodp, sgn_zero_iff.2 rfl] at h
theorem estL_len {qs ps : List Rat} (h : qs.length = ps.length) : (estL qs ps).length = ps.length := by simp [estL, h]
theorem estL_at {qs ps : List Rat} {i : Nat} (h : qs.length = ps.length) (hi : i < ps.length) : (estL qs ps).getD i 0 = qs.getD i 0 / ps.getD i 0 := by
  have h1 : i < qs.length := by omega
  simp [estL, List.getD, List.getElem?_zipWith, hi, h1]
theorem estL_take {qs ps : List Rat} {i : Nat} (h : qs.length = ps.length) (hi : i < ps.length) : (estL qs ps).take (i + 1) = (estL qs ps).take i ++ [qs.getD i 0 / ps.getD i 0] := by
  rw [take_snoc _ 0 i (by rw [estL_len h]; exact hi), estL_at h hi]
end Go.Proofs.Ytcnghhlchjcdhaa
