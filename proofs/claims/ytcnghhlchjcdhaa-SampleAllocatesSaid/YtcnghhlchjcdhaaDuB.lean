import Derived.Test.YtcnghhlchjcdhaaDuA
import Derived.Test.YtcnghhlchjcdhaaDrE
import Derived.Test.YtcnghhlchjcdhaaBoxA
import Derived.Test.YtcnghhlchjcdhaaSmpAw
import Derived.Test.YtcnghhlchjcdhaaDtB
/- The reference's Allocate: its errors in order, and what it gives. -/
namespace Go.Proofs.Ytcnghhlchjcdhaa.Dr
open Go.RowKit Go.Sort C6

def partL (f : Nat → Rat) (N t : Nat) (od : List Nat) : List Int := (List.range N).map fun j => ((partA f N t od j : Nat) : Int)
def rAllPost (N : Nat) (tot : Int) (f : Nat → Rat) (od : List Nat) (w : World) (e : Ending) (w' : World) : Prop :=
  ((allP f N && anyP f N) = false ∧ e = .returned (.tuple #[.slice none 0 0, .int .i64 100]) ∧ Below w.heap.size w w') ∨
  ((allP f N && anyP f N) = true ∧ (tot < 0 ∨ 1048576 < tot) ∧ e = .returned (.tuple #[.slice none 0 0, .int .i64 101]) ∧ Below w.heap.size w w') ∨
  ((allP f N && anyP f N) = true ∧ ∃ t : Nat, tot = (t : Int) ∧ t ≤ 1048576 ∧ ∃ a c, e = .returned (.tuple #[.slice a N c, .int .i64 0]) ∧ RdZ w' a c (partL f N t od) ∧ Below w.heap.size w w')
theorem rowF_parts (f : Nat → Rat) (N t : Nat) (od : List Nat) : rowF N (fun x => ((cntA f N t x : Nat) : Int) + ((upN od (t - sN (cntA f N t) N) x : Nat) : Int)) = intz (partL f N t od) := by
  unfold rowF partL intz
  rw [List.map_map]
  apply List.map_congr_left
  intro x _
  show _ = Value.int .i64 ((partA f N t od x : Nat) : Int)
  unfold partA
  rw [Int.natCast_add]
theorem kq_fiveU {N : Nat} (h : 1 ≤ N) : 5 ≤ kq 2 N := by
  obtain ⟨n, rfl⟩ : ∃ n, N = n + 1 := ⟨N - 1, by omega⟩
  rw [kq_succ]
  have := kq_ge 2 n
  omega
theorem rst_set {N : Nat} {r : Nat → Int} {od : List Nat} (h : Ord N r od) (P : Int) {k : Nat} (hk : k < N) : ((List.range N).map (rstQ r P od k)).set (od.getD k 0) (-1) = (List.range N).map (rstQ r P od (k + 1)) := by
  apply List.ext_getElem
  · simp
  · intro j h1 h2
    rw [List.getElem_set]
    simp only [List.getElem_map, List.getElem_range]
    rw [rst_next h P hk j]
    by_cases e : od.getD k 0 = j
    · rw [if_pos e, if_pos e.symm]
    · rw [if_neg e, if_neg (fun q => e q.symm)]

set_option maxHeartbeats 64000000 in
set_option maxRecDepth 100000 in
theorem rAllocate_v (tot : Int) (N : Nat) (ao : Option Addr) (cap : Nat) (rs : List RV) (f : Nat → Rat) (od : List Nat) (w : World) (hN : N ≤ 8) (h : RdR w ao cap rs) (hf : RL w rs f N 2)
    (hod : ∀ t : Nat, tot = (t : Int) → t ≤ 1048576 → (allP f N && anyP f N) = true → Ord N (fun i => ((remA f N t i : Nat) : Int)) od) :
    Calls Try.prog 10 #[.int .i64 tot, .slice ao N cap] w (rAllPost N tot f od w) := by
  obtain ⟨i0, hi, hz0, hz1, hz2⟩ := info_partsr infoInt10
  obtain ⟨k0, hk, hy0, hy1, hy2⟩ := info_partsr infoRatio
  obtain ⟨W1, hW1⟩ : ∃ W, W = w.alloc (.cells #[.bool false, .slice none 0 0, .slice none 0 0] 33) := ⟨_, rfl⟩
  obtain ⟨g, hg⟩ : ∃ g, g = w.heap.size := ⟨_, rfl⟩
  have b1 : Below w.heap.size w W1 := by rw [hW1]; exact below_new _ _
  have x1 : W1.heap[g]? = some (.cells #[.bool false, .slice none 0 0, .slice none 0 0] 33 (0, 0)) := by rw [hW1, hg]; exact heap_alloc_new _ _
  have HT0 : Hid (TotAt W1 g (qs f 0) (kq 2 0)) := by unfold Hid; rw [qs_zero, kq_zero]; exact ⟨_, _, _, _, _, _, _, x1, cq_zero _ _ 2 (by omega) (by omega)⟩
  have HB1 := Lib.hid b1
  have HG : Hid (g = w.heap.size) := hg
  have HH := Lib.hid h
  have HF := Lib.hid hf
  have HOD := Lib.hid hod
  have HRN : Hid (rs.length = N) := hf.1
  have hcap : N ≤ cap := by have := h.1; have := hf.1; omega
  have hcap2 := h.2.1
  clear h hf hod b1 x1
  go_enter Try.func10, Try.ntmps10
  go_wp2_with fail
  rw [← hW1]
  try rw [← hg]
  clear hW1 hg
  go_loopw [22] (fun s22 wr => ∃ i : Nat, i ≤ N ∧ s22 = .int .i64 (i : Int) ∧ Hid (TotAt wr g (qs f i) (kq 2 i)) ∧ Hid (∀ j, j < i → 0 ≤ sgn (f j)) ∧ Hid (∀ B, B ≤ g → Below B W1 wr)) (fun s22 _ => N - (intOf s22).toNat)
  case atStart => exact ⟨0, by omega, rfl, HT0.out, fun j hj => absurd hj (Nat.not_lt_zero _), fun _ _ => Below.refl _ _⟩
  case round =>
    obtain ⟨i, hiN, rfl, htot, hpos, hfr⟩ := hrel
    have hbl : Hid (Below w.heap.size w wr) := HB1.out.trans (hfr.out _ (by rw [HG.out]; exact Nat.le_refl _))
    have hgs := htot.out.lt
    obtain ⟨s, a, k, c0, o', m0, d0, x0, cq0⟩ := htot.out
    by_cases hlt : i < N
    · have hlt2 : (i : Int) < (N : Int) := by omega
      obtain ⟨b, o, rfl, hat⟩ := HH.out.at (by rw [HRN.out]; omega)
      obtain ⟨r, hre⟩ : ∃ r, r = rs.getD i RV.nil := ⟨_, rfl⟩
      obtain ⟨t0, t1, t2⟩ := (hat i (by rw [HRN.out]; exact hlt)).below hbl.out
      rw [← hre] at t0 t1 t2
      obtain ⟨X, hX⟩ : ∃ X, X = f i := ⟨_, rfl⟩
      have hmem : RQ wr r.s r.ao r.n r.ca r.bo r.m r.cb X 2 := by rw [hre, hX]; exact (HF.out.2 i hlt).below hbl.out
      obtain ⟨W5, hW5⟩ : ∃ W, W = wr.alloc (.cells #[.bool r.s, .slice r.ao r.n r.ca, .slice r.bo r.m r.cb] 33) := ⟨_, rfl⟩
      obtain ⟨g5, hg5⟩ : ∃ g, g = wr.heap.size := ⟨_, rfl⟩
      have b5 : Below wr.heap.size wr W5 := by rw [hW5]; exact below_new _ _
      have x5 : Hid (W5.heap[g5]? = some (.cells #[.bool r.s, .slice r.ao r.n r.ca, .slice r.bo r.m r.cb] 33 (0, 0))) := by rw [hW5, hg5]; exact heap_alloc_new _ _
      have X0 := Lib.hid (carry x0 b5)
      have CQ0 := Lib.hid (cq0.below b5)
      have RX := Lib.hid (hmem.below b5)
      have B5 := Lib.hid b5
      have SG0 := rSign_q _ _ _ _ _ _ _ 2 X W5 RX.out
      obtain ⟨S, hS⟩ : ∃ S, S = sgn X := ⟨_, rfl⟩
      have HSX : Hid (S = sgn (f i)) := by unfold Hid; rw [hS, hX]
      have HXX : Hid (X = f i) := hX
      rw [← hS] at SG0
      have SG := Lib.hid SG0
      clear hat hre hmem hX b5 cq0 hS x0 SG0
      go_upto_region 5 with fail
      rw [← hW5]
      try rw [← hg5]
      clear hW5 hg5 t0 t1 t2
      obtain ⟨e0, e1, e2, _, _, _⟩ := at_block x5.out
      by_cases hs : S < 0
      · have hsd : decide (S < 0) = true := decide_eq_true hs
        have hall : Hid ((allP f N && anyP f N) = false) := by
          unfold Hid
          have h2 : allP f N = false := by
            cases hc : allP f N with
            | false => rfl
            | true =>
              have := (allP_iff f N).1 hc i hlt
              have := HSX.out
              omega
          rw [h2]
          rfl
        go_wp2_with fail
        refine SG.out.mono ?_; rintro e w6 ⟨rfl, b6⟩
        have HW6 : Hid (Below w.heap.size w w6) := hbl.out.trans ((B5.out.trans (b6.mono B5.out.size)).mono hbl.out.size)
        clear b6 e0 e1 e2
        go_wp2_with fail
        refine bodyPost_ret (v := .tuple #[.slice none 0 0, .int .i64 100]) (by simp [results, Try.results10, go_sem]) rfl ?_
        exact .inl ⟨hall.out, rfl, HW6.out⟩
      · have hsd : decide (S < 0) = false := decide_eq_false hs
        have hs0 : 0 ≤ S := by omega
        have hpos1 : Hid (∀ j, j < i + 1 → 0 ≤ sgn (f j)) := fun j hj => by
          by_cases e : j = i
          · rw [e, ← HSX.out]; exact hs0
          · exact hpos.out j (by omega)
        go_wp2_with fail
        refine SG.out.mono ?_; rintro e w6 ⟨rfl, b6⟩
        have X6 := Lib.hid (carry X0.out b6)
        have y6 := carry x5.out b6
        have hk8 := kq_le (k := 2) (i := i) (by omega) (by omega)
        have HA := Lib.hid (rAdd_q _ _ _ _ _ _ _ _ _ _ _ _ _ _ (kq 2 i) _ X w6 (CQ0.out.below b6).rq (RQ.up (RX.out.below b6) (kq_ge 2 i) (by omega)) (by omega))
        have hg6 : g < w6.heap.size := (Array.getElem?_eq_some_iff.1 X6.out).1
        have HB6 : Hid (∀ B, B ≤ g → Below B W1 w6) := fun B hB => (hfr.out B hB).trans ((B5.out.mono (by omega)).trans (b6.mono (by have := B5.out.size; omega)))
        have HQS : Hid (qs f (i + 1) = qs f i + X) := by unfold Hid; rw [qs_succ, HXX.out]
        obtain ⟨d0', d1', d2', _, _, _⟩ := at_block X6.out
        obtain ⟨f0, f1, f2, _, _, _⟩ := at_block y6
        clear b6 e0 e1 e2 y6 SG x5 X0 CQ0 RX B5 htot hpos hfr hbl hk8 HSX HXX
        go_wp2_with fail
        refine HA.out.mono ?_; rintro e w7 ⟨s7, a7, n7, e7, o7, m7, f7, rfl, cq7, b7⟩
        have x7 := carry X6.out b7
        have HT7 : Hid (TotAt (((w7.setCell ⟨g, 0, none⟩ (.bool s7)).setCell ⟨g, 1, none⟩ (.slice a7 n7 e7)).setCell ⟨g, 2, none⟩ (.slice o7 m7 f7)) g (qs f (i + 1)) (kq 2 (i + 1))) := by
          unfold Hid; rw [HQS.out, kq_succ]
          exact ⟨s7, a7, n7, e7, o7, m7, f7, set3_at x7 _ _ _, (((cq7.mono (by omega)).set_at 0 _).set_at 1 _).set_at 2 _⟩
        have HB7 : Hid (∀ B, B ≤ g → Below B W1 (((w7.setCell ⟨g, 0, none⟩ (.bool s7)).setCell ⟨g, 1, none⟩ (.slice a7 n7 e7)).setCell ⟨g, 2, none⟩ (.slice o7 m7 f7))) := fun B hB => below3 ((HB6.out B hB).trans (b7.mono (by omega))) hB _ _ _
        obtain ⟨u0, u1, u2, z0, z1, z2⟩ := at_block x7
        clear d0' d1' d2' f0 f1 f2 HA x7 X6 cq7 b7 HQS HB6
        go_wp2_with fail
        go_roundw
        case rel => exact ⟨i + 1, by omega, by go_num, HT7, hpos1, HB7⟩
        case measure => simp [intOf]; omega
    · obtain rfl : i = N := by omega
      have hlt2 : ¬ (i : Int) < (i : Int) := by omega
      have hallb : allP f i = true := (allP_iff f i).2 hpos.out
      have HAB := Lib.hid hallb
      by_cases h0 : i < 1
      · have hz : decide ((i : Int) < 1) = true := decide_eq_true (by omega)
        have hz' : (i : Int) < 1 := by omega
        have hall : Hid ((allP f i && anyP f i) = false) := by
          unfold Hid
          obtain rfl : i = 0 := by omega
          simp [anyP]
        clear hallb HAB htot hpos hfr cq0 x0
        go_wp2_with fail
        refine bodyPost_ret (v := .tuple #[.slice none 0 0, .int .i64 100]) (by simp [results, Try.results10, go_sem]) rfl ?_
        exact .inl ⟨hall.out, rfl, hbl.out⟩
      · have h1 : 1 ≤ i := by omega
        have hz : decide ((i : Int) < 1) = false := decide_eq_false (by omega)
        have hz' : (1 : Int) ≤ (i : Int) := by omega
        have h200 : decide ((200 : Int) < (i : Int)) = false := decide_eq_false (by omega)
        have SG0 := rSign_q _ _ _ _ _ _ _ _ _ wr cq0.rq
        obtain ⟨S0, hS0⟩ : ∃ S, S = sgn (qs f i) := ⟨_, rfl⟩
        have HS0 := Lib.hid hS0
        rw [← hS0] at SG0
        have SG := Lib.hid SG0
        have CQ0 := Lib.hid cq0
        have X0 := Lib.hid x0
        obtain ⟨v0, v1, v2, _, _, _⟩ := at_block x0
        clear SG0 hS0 cq0 x0 htot hpos hfr hallb h0
        by_cases hzs : S0 = 0
        · have hzb : (S0 == 0) = true := beq_iff_eq.2 hzs
          have hall : Hid ((allP f i && anyP f i) = false) := by
            unfold Hid
            cases hc : anyP f i with
            | false => simp
            | true => exact absurd (sgn_zero_iff.1 (HS0.out.symm.trans hzs)) ((any_sum HAB.out).1 hc)
          clear hzs
          go_wp2_with fail
          refine SG.out.mono ?_; rintro e w6 ⟨rfl, b6⟩
          have HW6 : Hid (Below w.heap.size w w6) := hbl.out.trans (b6.mono hbl.out.size)
          clear b6 v0 v1 v2
          go_wp2_with fail
          refine bodyPost_ret (v := .tuple #[.slice none 0 0, .int .i64 100]) (by simp [results, Try.results10, go_sem]) rfl ?_
          exact .inl ⟨hall.out, rfl, HW6.out⟩
        · have hzb : (S0 == 0) = false := beq_eq_false_iff_ne.2 hzs
          have hqn : qs f i ≠ 0 := fun h => hzs (HS0.out.trans (sgn_zero_iff.2 h))
          have HAY : Hid (anyP f i = true) := (any_sum HAB.out).2 hqn
          have hall : Hid ((allP f i && anyP f i) = true) := by unfold Hid; rw [HAB.out, HAY.out]; rfl
          have HQN := Lib.hid hqn
          clear hzs hqn
          go_wp2_with fail
          refine SG.out.mono ?_; rintro e W7 ⟨rfl, b6⟩
          have HW7 : Hid (Below w.heap.size w W7) := hbl.out.trans (b6.mono hbl.out.size)
          have XS := Lib.hid (carry X0.out b6)
          have CQS := Lib.hid (CQ0.out.below b6)
          clear b6 v0 v1 v2 SG X0 CQ0 HS0 hbl
          by_cases ht0 : tot < 0
          · have htd : decide (tot < 0) = true := decide_eq_true ht0
            go_wp2_with fail
            refine bodyPost_ret (v := .tuple #[.slice none 0 0, .int .i64 101]) (by simp [results, Try.results10, go_sem]) rfl ?_
            exact .inr (.inl ⟨hall.out, .inl ht0, rfl, HW7.out⟩)
          · have htd : decide (tot < 0) = false := decide_eq_false ht0
            have ht0' : 0 ≤ tot := by omega
            by_cases ht1 : 1048576 < tot
            · have htd1 : decide (1048576 < tot) = true := decide_eq_true ht1
              go_wp2_with fail
              refine bodyPost_ret (v := .tuple #[.slice none 0 0, .int .i64 101]) (by simp [results, Try.results10, go_sem]) rfl ?_
              exact .inr (.inl ⟨hall.out, .inr ht1, rfl, HW7.out⟩)
            · have htd1 : decide (1048576 < tot) = false := decide_eq_false ht1
              have ht1' : tot ≤ 1048576 := by omega
              obtain ⟨t, htt⟩ : ∃ t : Nat, tot = (t : Int) := ⟨tot.toNat, by omega⟩
              have htN : t ≤ 1048576 := by omega
              have ho := HOD.out t htt htN hall.out
              subst htt
              have hP0 := sN_pos HAB.out HAY.out
              have hsg := (allP_iff f i).1 HAB.out
              have hpe : ∀ x, x < i → ((pA f (Lm f i) x : Nat) : Rat) = f x * (Lm f i : Rat) := fun x hx => pA_eq (sgn_nn.1 (hsg x hx)) (Lm_den f i x hx)
              have hLF : sN (cntA f i t) i ≤ t ∧ t - sN (cntA f i t) i < i := left_lt (t := t) (p := pA f (Lm f i)) (by omega) hP0 rfl
              obtain ⟨P, hP⟩ : ∃ P, P = sN (pA f (Lm f i)) i := ⟨_, rfl⟩
              obtain ⟨S, hS⟩ : ∃ S, S = qs f i := ⟨_, rfl⟩
              obtain ⟨p, hp⟩ : ∃ p : Nat → Nat, p = fun x => t * pA f (Lm f i) x := ⟨_, rfl⟩
              obtain ⟨c, hc⟩ : ∃ c, c = cntA f i t := ⟨_, rfl⟩
              obtain ⟨rm, hrm⟩ : ∃ r, r = remA f i t := ⟨_, rfl⟩
              obtain ⟨cI, hcI⟩ : ∃ cI : Nat → Int, cI = fun x => ((c x : Nat) : Int) := ⟨_, rfl⟩
              obtain ⟨rI, hrI⟩ : ∃ rI : Nat → Int, rI = fun x => ((rm x : Nat) : Int) := ⟨_, rfl⟩
              obtain ⟨lf, hlf⟩ : ∃ lf, lf = t - sN c i := ⟨_, rfl⟩
              have hP1 : 1 ≤ P := by rw [hP]; omega
              have HPP : Hid ((1 : Int) ≤ (P : Int)) := by unfold Hid; omega
              have HSH : Hid (∀ x, x < i → f x * (t : Rat) / S = fq ((p x : Nat) : Int) (P : Int)) := fun x hx => by
                rw [hS, hp, hP]
                exact share_eq (t := t) (Lm_pos f i) hP0 (hpe x hx) (sN_rat i hpe)
              have HFL : Hid (∀ x, ((p x : Nat) : Int) / (P : Int) = ((c x : Nat) : Int)) := fun x => by rw [hp, hP, hc, ← Int.natCast_ediv]; rfl
              have HMD : Hid (∀ x, ((p x : Nat) : Int) % (P : Int) = rI x) := fun x => by rw [hrI, hrm, hp, hP, ← Int.natCast_emod]; rfl
              have HLF : Hid (sN c i ≤ t ∧ t - sN c i < i) := by rw [hc]; exact hLF
              have HSB : Hid (∀ x, x < i → sN c (x + 1) ≤ t) := fun x hx => Nat.le_trans (sN_mono c (show x + 1 ≤ i by omega)) HLF.out.1
              have HCB : Hid (∀ x, x < i → c x ≤ 1048576) := fun x hx => by have := HSB.out x hx; have e : sN c (x + 1) = sN c x + c x := rfl; omega
              have HO : Hid (Ord i rI od) := by unfold Hid; rw [hrI, hrm]; exact ho
              have HR0 : Hid (∀ x, x < i → 0 ≤ rI x) := fun x _ => by rw [hrI]; show (0 : Int) ≤ ((rm x : Nat) : Int); omega
              have HCI : Hid (∀ x, cI x = ((c x : Nat) : Int)) := fun x => by rw [hcI]
              have HFIN : Hid (rowF i (fun x => cI x + ((upN od lf x : Nat) : Int)) = intz (partL f i t od)) := by unfold Hid; rw [hcI, hlf, hc]; exact rowF_parts f i t od
              have HLE : Hid (lf = t - sN c i) := hlf
              have HSN : Hid (S ≠ 0) := by unfold Hid; rw [hS]; exact HQN.out
              obtain ⟨K, hK⟩ : ∃ K, K = kq 2 i := ⟨_, rfl⟩
              have hK5 : 5 ≤ K := by rw [hK]; exact kq_fiveU h1
              have hK6 : K ≤ 4100096 := by rw [hK]; exact kq_le (by omega) (by omega)
              unfold Hid at CQS
              rw [← hK, ← hS] at CQS
              have RS : Hid (RQ W7 s a k c0 o' m0 d0 S K) := CQS.rq
              obtain ⟨K2, hK2⟩ : ∃ K2, K2 = K + K + 1 := ⟨_, rfl⟩
              obtain ⟨K3, hK3⟩ : ∃ K3, K3 = K2 + K2 + 1 := ⟨_, rfl⟩
              have HK : Hid (5 ≤ K ∧ K ≤ 4100096 ∧ K2 = K + K + 1 ∧ K3 = K2 + K2 + 1) := ⟨hK5, hK6, hK2, hK3⟩
              obtain ⟨M, hM⟩ : ∃ M, M = W7.heap.size := ⟨_, rfl⟩
              have HM := Lib.hid hM
              have hgM : Hid (g < M) := by unfold Hid; rw [hM]; exact (Array.getElem?_eq_some_iff.1 XS.out).1
              have HRD := Lib.hid (HH.out.below HW7.out)
              have HRL := Lib.hid (HF.out.below HW7.out)
              have htI : (t : Int) ≤ 1048576 := by omega
              clear ho hP0 hsg hpe hLF hP hS hp hc hrm hcI hrI hlf hP1 hK hK5 hK6 CQS hK2 hK3 hM HQN HAB HAY HOD ht0 ht1 htd htd1
              have htd : decide ((t : Int) < 0) = false := decide_eq_false (by omega)
              have htd1 : decide (1048576 < (t : Int)) = false := decide_eq_false (by omega)
              have L0 : Hid (Lc M W7 [] ((List.range 0).map fun x => fq (rI x) (P : Int)) K3) := Lc.nil _ _ _
              go_wp2_with fail
              go_loopw [55, 9, 10, 11] (fun s55 s9 s10 s11 wq => ∃ (j : Nat) (v u : Value) (es : List RV) (l : Int), j ≤ i ∧ s55 = .int .i64 (j : Int) ∧ v = s9 ∧ u = s10 ∧ s11 = .int .i64 l ∧ Hid (l = (t : Int) - ((sN c j : Nat) : Int)) ∧ Hid (wq.ownsRow M 3 1 v j (rowF j cI)) ∧ Hid (wq.ownsRow M 33 3 u j (rvs es)) ∧ Hid (Lc M wq es ((List.range j).map fun x => fq (rI x) (P : Int)) K3) ∧ Hid (Below M W7 wq)) (fun s55 _ _ _ _ => i - (intOf s55).toNat)
              case atStart => exact ⟨0, _, _, [], (t : Int), by omega, rfl, rfl, rfl, rfl, (by show (t : Int) = (t : Int) - ((0 : Nat) : Int); omega), World.ownsRow_nil _ _ _ _, World.ownsRow_nil _ _ _ _, L0.out, Below.refl _ _⟩
              case round =>
                obtain ⟨j, v, u, es, l, hji, rfl, rfl, rfl, rfl, hl, hv, hu, hlc, hb⟩ := hrel
                have hbM : Hid (Below W7.heap.size W7 wr) := by rw [← HM.out]; exact hb.out
                by_cases hjl : j < i
                · have hjl2 : (j : Int) < (i : Int) := by omega
                  obtain ⟨b, o, rfl, hat⟩ := HRD.out.at (by rw [HRN.out]; omega)
                  obtain ⟨r0, hre⟩ : ∃ r, r = rs.getD j RV.nil := ⟨_, rfl⟩
                  obtain ⟨t0, t1, t2⟩ := (hat j (by rw [HRN.out]; exact hjl)).below hbM.out
                  rw [← hre] at t0 t1 t2
                  obtain ⟨X, hX⟩ : ∃ X, X = f j := ⟨_, rfl⟩
                  have hmem : RQ wr r0.s r0.ao r0.n r0.ca r0.bo r0.m r0.cb X 2 := by rw [hre, hX]; exact (HRL.out.2 j hjl).below hbM.out
                  obtain ⟨Y, hY⟩ : ∃ Y, Y = fq ((p j : Nat) : Int) (P : Int) := ⟨_, rfl⟩
                  have HXY : Hid (X * (t : Rat) / S = Y) := by unfold Hid; rw [hX, hY]; exact HSH.out j hjl
                  have HYY := Lib.hid hY
                  obtain ⟨cj, hcj⟩ : ∃ cj, cj = c j := ⟨_, rfl⟩
                  have hcb : cj ≤ 1048576 := by rw [hcj]; exact HCB.out j hjl
                  have HCJ := Lib.hid hcj
                  obtain ⟨l1, hl1⟩ : ∃ l1 : Int, l1 = l - (cj : Int) := ⟨_, rfl⟩
                  have hl1e : Hid (l1 = (t : Int) - ((sN c (j + 1) : Nat) : Int)) := by unfold Hid; rw [hl1, hl.out, show sN c (j + 1) = sN c j + c j from rfl, hcj]; omega
                  have hl1i : l - (cj : Int) = l1 := hl1.symm
                  have hl1w : IntKind.i64.wrap l1 = l1 := IntWalk.i64_in _ (by have := hl1e.out; have := HSB.out j hjl; omega)
                  obtain ⟨W8, hW8⟩ : ∃ W, W = wr.alloc (.cells #[.bool r0.s, .slice r0.ao r0.n r0.ca, .slice r0.bo r0.m r0.cb] 33) := ⟨_, rfl⟩
                  obtain ⟨g8, hg8⟩ : ∃ g, g = wr.heap.size := ⟨_, rfl⟩
                  have b8 : Below wr.heap.size wr W8 := by rw [hW8]; exact below_new _ _
                  have x8 : Hid (W8.heap[g8]? = some (.cells #[.bool r0.s, .slice r0.ao r0.n r0.ca, .slice r0.bo r0.m r0.cb] 33 (0, 0))) := by rw [hW8, hg8]; exact heap_alloc_new _ _
                  have hMw : M ≤ wr.heap.size := by rw [HM.out]; exact hbM.out.size
                  have HB8 : Hid (Below M W7 W8) := hb.out.trans (b8.mono hMw)
                  have hM8 : Hid (M ≤ W8.heap.size) := Nat.le_trans hMw b8.size
                  have hv8 := Lib.hid (row_below hv.out b8)
                  have hu8 := Lib.hid (row_below hu.out b8)
                  have hlc8 := Lib.hid (hlc.out.below b8)
                  have XS8 := Lib.hid (carry (carry XS.out hbM.out) b8)
                  have RS8 := Lib.hid ((RS.out.below hbM.out).below b8)
                  have RX8 := Lib.hid (hmem.below b8)
                  have KU : Hid (∀ w', Below W8.heap.size W8 w' → w'.cell? ⟨g8, 0, none⟩ = some (.bool r0.s) ∧ w'.cell? ⟨g8, 1, none⟩ = some (.slice r0.ao r0.n r0.ca) ∧ w'.cell? ⟨g8, 2, none⟩ = some (.slice r0.bo r0.m r0.cb)) := fun w' hb => by
                    obtain ⟨k0, k1, k2, _⟩ := at_block (carry x8.out hb)
                    exact ⟨k0, k1, k2⟩
                  have KS : Hid (∀ w', Below W8.heap.size W8 w' → w'.cell? ⟨g, 0, none⟩ = some (.bool s) ∧ w'.cell? ⟨g, 1, none⟩ = some (.slice a k c0) ∧ w'.cell? ⟨g, 2, none⟩ = some (.slice o' m0 d0)) := fun w' hb => by
                    obtain ⟨k0, k1, k2, _⟩ := at_block (carry XS8.out hb)
                    exact ⟨k0, k1, k2⟩
                  have FT : Hid (∀ w', Calls Try.prog 17 #[.int .i64 (t : Int)] w' (MakesQ (t : Rat) 2 w')) := fun w' => by
                    have := rFromInt_z (t : Int) (by omega) (by omega) w'
                    rwa [Rat.intCast_natCast] at this
                  have MU : Hid (∀ w', Below W8.heap.size W8 w' → ∀ t' po n' ca' qo l cb', RQ w' t' po n' ca' qo l cb' (t : Rat) 2 → Calls Try.prog 16 #[.agg #[.bool r0.s, .slice r0.ao r0.n r0.ca, .slice r0.bo r0.m r0.cb], .agg #[.bool t', .slice po n' ca', .slice qo l cb']] w' (MakesQ (X * (t : Rat)) 5 w')) := fun w' hb t' po n' ca' qo l cb' h1 => rMul_q _ _ _ _ _ _ _ _ _ _ _ _ _ _ 2 X (t : Rat) w' (RX8.out.below hb) h1 (by omega)
                  have QU : Hid (∀ w', Below W8.heap.size W8 w' → ∀ t' po n' ca' qo l cb', RQ w' t' po n' ca' qo l cb' (X * (t : Rat)) 5 → Calls Try.prog 15 #[.agg #[.bool t', .slice po n' ca', .slice qo l cb'], .agg #[.bool s, .slice a k c0, .slice o' m0 d0]] w' (MakesE Y K2 w')) := fun w' hb t' po n' ca' qo l cb' h1 => by
                    rw [HK.out.2.2.1, ← HXY.out]
                    exact rQuo_q _ _ _ _ _ _ _ _ _ _ _ _ _ _ K _ S w' (h1.up (by have := HK.out; omega) (by have := HK.out; omega)) (RS8.out.below hb) (by have := HK.out; omega) HSN.out
                  clear hat hre hmem hX hY hcj hl1 hl b8 hMw hv hu hlc hb hbM x8
                  go_upto_region 19 with fail
                  rw [← hW8]
                  try rw [← hg8]
                  clear hW8 hg8 t0 t1 t2
                  go_cut [14, 15] from 59 to 67 (fun vb ve wx => ve = .int .i64 0 ∧ BoxQ W8 Y K2 vb wx)
                  case first =>
                    refine wp_region_any (by kernel_rfl) ?_
                    refine region_ssa [60, 61, 62, 63, 64, 65, 59, 66, 67, 14, 15] (Below W8.heap.size W8) (ExtT 33 W8.heap.size) (LsP [kV (.agg #[.bool r0.s, .slice r0.ao r0.n r0.ca, .slice r0.bo r0.m r0.cb]), kV (.int .i64 (t : Int)), kQ ((t : Rat)) (2), kQ (X * (t : Rat)) (5), kV (.agg #[.bool s, .slice a k c0, .slice o' m0 d0]), kE (0) (Y) (K2), kE (0) (Y) (K2), kQ (Y) (K2), kV (.int .i64 0), kBox 33 W8.heap.size, kAny, kV (.int .i64 0)]) (OneX 33 10 14 66) (fun f => rfl) (by kernel_rfl) (by kernel_rfl) ?_ ?_ ?_ ?_ (AllFrom.below (n := 12) ?_) ?_
                    · exact (Below.refl _ _).drew
                    · intro f h; cases h
                    · intro jx vx w1 w2 _ h hE; exact LsP.ext (StTL.all (l := [kV (.agg #[.bool r0.s, .slice r0.ao r0.n r0.ca, .slice r0.bo r0.m r0.cb]), kV (.int .i64 (t : Int)), kQ ((t : Rat)) (2), kQ (X * (t : Rat)) (5), kV (.agg #[.bool s, .slice a k c0, .slice o' m0 d0]), kE (0) (Y) (K2), kE (0) (Y) (K2), kQ (Y) (K2), kV (.int .i64 0), kBox 33 W8.heap.size, kAny, kV (.int .i64 0)]) ⟨StT.v _ _, StT.v _ _, StT.q (by decide) _ _, StT.q (by decide) _ _, StT.v _ _, StT.e (by decide) _ _ _, StT.e (by decide) _ _ _, StT.q (by decide) _ _, StT.v _ _, StT.box _ _, StT.any _, StT.v _ _, trivial⟩) jx vx w1 w2 h hE
                    · intro w1 w2 hB hE; exact hB.trans hE.1
                    · refine AllFrom.step (m := 11) (j := 1) rfl ?_ ?_
                      · intro D f w1 hD hB hR hp hcl hX
                        obtain ⟨k0, k1, k2⟩ := KU.out w1 hB
                        obtain ⟨j0, j1, j2⟩ := KS.out w1 hB
                        refine wpOp_step rfl (fun K hK => ?_)
                        simp only [putAll, Act.put, List.setIfInBounds_toArray, List.set_cons_succ, List.set_cons_zero]
                        go_simp
                        exact hK _ _ ⟨.agg #[.bool r0.s, .slice r0.ao r0.n r0.ca, .slice r0.bo r0.m r0.cb], (by show _ = Act.put _ (some 60) _; simp only [putAll, Act.put, List.setIfInBounds_toArray, List.set_cons_succ, List.set_cons_zero, *]), rfl, ExtT.refl _ _ _, fun h => absurd h (no_of (D := D) (hcl 10) (by kernel_rfl) hD)⟩
                      refine AllFrom.step (m := 10) (j := 2) rfl ?_ ?_
                      · intro D f w1 hD hB hR hp hcl hX
                        refine wpOp_step rfl (fun K hK => ?_)
                        simp only [putAll, Act.put, List.setIfInBounds_toArray, List.set_cons_succ, List.set_cons_zero]
                        go_simp
                        exact hK _ _ ⟨.int .i64 (t : Int), (by show _ = Act.put _ (some 61) _; simp only [putAll, Act.put, List.setIfInBounds_toArray, List.set_cons_succ, List.set_cons_zero, *]), rfl, ExtT.refl _ _ _, fun h => absurd h (no_of (D := D) (hcl 10) (by kernel_rfl) hD)⟩
                      refine AllFrom.step (m := 9) (j := 3) rfl ?_ ?_
                      · intro D f w1 hD hB hR hp hcl hX
                        have e1 : f 61 = .int .i64 (t : Int) := (hp_at hp 1 (by kernel_rfl)).2
                        refine wpOp_step rfl (fun K hK => ?_)
                        simp only [putAll, Act.put, List.setIfInBounds_toArray, List.set_cons_succ, List.set_cons_zero]
                        go_simp
                        refine (FT.out _).mono ?_
                        rintro e w2 ⟨s9, a9, n9, c9, o9, m9, d9, rfl, cq, hb⟩
                        go_simp
                        exact hK _ _ ⟨.agg #[.bool s9, .slice a9 n9 c9, .slice o9 m9 d9], (by show _ = Act.put _ (some 62) _; simp only [putAll, Act.put, List.setIfInBounds_toArray, List.set_cons_succ, List.set_cons_zero, *]), ⟨_, _, _, _, _, _, _, rfl, cq.mono (Nat.zero_le _)⟩, ExtT.of_below hb hB.size, fun h => absurd h (no_of (D := D) (hcl 10) (by kernel_rfl) hD)⟩
                      refine AllFrom.step (m := 8) (j := 4) rfl ?_ ?_
                      · intro D f w1 hD hB hR hp hcl hX
                        have e0 : f 60 = .agg #[.bool r0.s, .slice r0.ao r0.n r0.ca, .slice r0.bo r0.m r0.cb] := (hp_at hp 0 (by kernel_rfl)).2
                        obtain ⟨s2, a2, n2, c2, o2, m2, d2, e2, q2⟩ := (hp_at hp 2 (by kernel_rfl)).2
                        replace e2 : f 62 = _ := e2
                        refine wpOp_step rfl (fun K hK => ?_)
                        simp only [putAll, Act.put, List.setIfInBounds_toArray, List.set_cons_succ, List.set_cons_zero]
                        go_simp
                        refine (MU.out _ hB _ _ _ _ _ _ _ q2.rq).mono ?_
                        rintro e w2 ⟨s9, a9, n9, c9, o9, m9, d9, rfl, cq, hb⟩
                        go_simp
                        exact hK _ _ ⟨.agg #[.bool s9, .slice a9 n9 c9, .slice o9 m9 d9], (by show _ = Act.put _ (some 63) _; simp only [putAll, Act.put, List.setIfInBounds_toArray, List.set_cons_succ, List.set_cons_zero, *]), ⟨_, _, _, _, _, _, _, rfl, cq.mono (Nat.zero_le _)⟩, ExtT.of_below hb hB.size, fun h => absurd h (no_of (D := D) (hcl 10) (by kernel_rfl) hD)⟩
                      refine AllFrom.step (m := 7) (j := 5) rfl ?_ ?_
                      · intro D f w1 hD hB hR hp hcl hX
                        obtain ⟨k0, k1, k2⟩ := KU.out w1 hB
                        obtain ⟨j0, j1, j2⟩ := KS.out w1 hB
                        refine wpOp_step rfl (fun K hK => ?_)
                        simp only [putAll, Act.put, List.setIfInBounds_toArray, List.set_cons_succ, List.set_cons_zero]
                        go_simp
                        exact hK _ _ ⟨.agg #[.bool s, .slice a k c0, .slice o' m0 d0], (by show _ = Act.put _ (some 64) _; simp only [putAll, Act.put, List.setIfInBounds_toArray, List.set_cons_succ, List.set_cons_zero, *]), rfl, ExtT.refl _ _ _, fun h => absurd h (no_of (D := D) (hcl 10) (by kernel_rfl) hD)⟩
                      refine AllFrom.step (m := 6) (j := 6) rfl ?_ ?_
                      · intro D f w1 hD hB hR hp hcl hX
                        obtain ⟨s3, a3, n3, c3, o3, m3, d3, e3, q3⟩ := (hp_at hp 3 (by kernel_rfl)).2
                        replace e3 : f 63 = _ := e3
                        have e4 : f 64 = .agg #[.bool s, .slice a k c0, .slice o' m0 d0] := (hp_at hp 4 (by kernel_rfl)).2
                        refine wpOp_step rfl (fun K hK => ?_)
                        simp only [putAll, Act.put, List.setIfInBounds_toArray, List.set_cons_succ, List.set_cons_zero]
                        go_simp
                        refine (QU.out _ hB _ _ _ _ _ _ _ q3.rq).mono ?_
                        rintro e w2 ⟨s9, a9, n9, c9, o9, m9, d9, rfl, cq, hb⟩
                        go_simp
                        exact hK _ _ ⟨.tuple #[.agg #[.bool s9, .slice a9 n9 c9, .slice o9 m9 d9], .int .i64 0], (by show _ = Act.put _ (some 65) _; simp only [putAll, Act.put, List.setIfInBounds_toArray, List.set_cons_succ, List.set_cons_zero, *]), ⟨_, _, _, _, _, _, _, rfl, cq.mono (Nat.zero_le _)⟩, ExtT.of_below hb hB.size, fun h => absurd h (no_of (D := D) (hcl 10) (by kernel_rfl) hD)⟩
                      refine AllFrom.step (m := 5) (j := 7) rfl ?_ ?_
                      · intro D f w1 hD hB hR hp hcl hX
                        obtain ⟨s5, a5, n5, c5, o5, m5, d5, e5, q5⟩ := (hp_at hp 5 (by kernel_rfl)).2
                        replace e5 : f 65 = _ := e5
                        refine wpOp_step rfl (fun K hK => ?_)
                        simp only [putAll, Act.put, List.setIfInBounds_toArray, List.set_cons_succ, List.set_cons_zero]
                        go_simp
                        exact hK _ _ ⟨.tuple #[.agg #[.bool s5, .slice a5 n5 c5, .slice o5 m5 d5], .int .i64 0], (by show _ = Act.put _ (some 59) _; simp only [putAll, Act.put, List.setIfInBounds_toArray, List.set_cons_succ, List.set_cons_zero, *]), ⟨_, _, _, _, _, _, _, rfl, q5⟩, ExtT.refl _ _ _, fun h => absurd h (no_of (D := D) (hcl 10) (by kernel_rfl) hD)⟩
                      refine AllFrom.step (m := 4) (j := 8) rfl ?_ ?_
                      · intro D f w1 hD hB hR hp hcl hX
                        obtain ⟨s6, a6, n6, c6, o6, m6, d6, e6, q6⟩ := (hp_at hp 6 (by kernel_rfl)).2
                        replace e6 : f 59 = _ := e6
                        refine wpOp_step rfl (fun K hK => ?_)
                        simp only [putAll, Act.put, List.setIfInBounds_toArray, List.set_cons_succ, List.set_cons_zero]
                        go_simp
                        exact hK _ _ ⟨.agg #[.bool s6, .slice a6 n6 c6, .slice o6 m6 d6], (by show _ = Act.put _ (some 66) _; simp only [putAll, Act.put, List.setIfInBounds_toArray, List.set_cons_succ, List.set_cons_zero, *]), ⟨_, _, _, _, _, _, _, rfl, q6⟩, ExtT.refl _ _ _, fun h => absurd h (no_of (D := D) (hcl 10) (by kernel_rfl) hD)⟩
                      refine AllFrom.step (m := 3) (j := 9) rfl ?_ ?_
                      · intro D f w1 hD hB hR hp hcl hX
                        obtain ⟨s6, a6, n6, c6, o6, m6, d6, e6, q6⟩ := (hp_at hp 6 (by kernel_rfl)).2
                        replace e6 : f 59 = _ := e6
                        refine wpOp_step rfl (fun K hK => ?_)
                        simp only [putAll, Act.put, List.setIfInBounds_toArray, List.set_cons_succ, List.set_cons_zero]
                        go_simp
                        exact hK _ _ ⟨.int .i64 0, (by show _ = Act.put _ (some 67) _; simp only [putAll, Act.put, List.setIfInBounds_toArray, List.set_cons_succ, List.set_cons_zero, *]), rfl, ExtT.refl _ _ _, hX⟩
                      refine AllFrom.step (m := 2) (j := 10) rfl ?_ ?_
                      · intro D f w1 hD hB hR hp hcl hX
                        refine wpOp_step rfl (fun K hK => ?_)
                        simp only [putAll, Act.put, List.setIfInBounds_toArray, List.set_cons_succ, List.set_cons_zero]
                        go_simp
                        exact hK _ _ ⟨.pointer (some ⟨w1.heap.size, 0, none⟩), (by show _ = Act.put _ (some 14) _; simp only [putAll, Act.put, List.setIfInBounds_toArray, List.set_cons_succ, List.set_cons_zero, *]), ⟨w1.heap.size, rfl, hB.size, newBT _ _ _ _ _⟩, ExtT.of_below (below_new _ _) hB.size, fun h => absurd h (no_of (D := D) (hcl 10) (by kernel_rfl) hD)⟩
                      refine AllFrom.step (m := 1) (j := 11) rfl ?_ ?_
                      · intro D f w1 hD hB hR hp hcl hX
                        obtain ⟨g, eg, hg, hb⟩ := (hp_at hp 9 (by kernel_rfl)).2
                        obtain ⟨s5, a5, n5, c5, o5, m5, d5, ev, hcq⟩ := (hp_at hp 7 (by kernel_rfl)).2
                        replace ev : f 66 = _ := ev
                        replace eg : f 14 = _ := eg
                        obtain ⟨u0, u1, u2, q0, q1, q2, z0, z1, z2⟩ := hb.facts
                        refine wpOp_step rfl (fun K hK => ?_)
                        simp only [putAll, Act.put, List.setIfInBounds_toArray, List.set_cons_succ, List.set_cons_zero]
                        go_simp
                        exact hK _ _ ⟨undef, (by show _ = Act.put _ (none) _; simp only [putAll, Act.put, List.setIfInBounds_toArray, List.set_cons_succ, List.set_cons_zero, *]), trivial, ExtT.set3 hb hg _ _ _, fun _ => by show HoldsT _ _ (f 14) (f 66); rw [eg, ev]; exact HoldsT.new hb _ _ _⟩
                      refine AllFrom.step (m := 0) (j := 12) rfl ?_ ?_
                      · intro D f w1 hD hB hR hp hcl hX
                        have e8 : f 67 = .int .i64 0 := (hp_at hp 8 (by kernel_rfl)).2
                        refine wpOp_step rfl (fun K hK => ?_)
                        simp only [putAll, Act.put, List.setIfInBounds_toArray, List.set_cons_succ, List.set_cons_zero]
                        go_simp
                        exact hK _ _ ⟨.int .i64 0, (by show _ = Act.put _ (some 15) _; simp only [putAll, Act.put, List.setIfInBounds_toArray, List.set_cons_succ, List.set_cons_zero, *]), rfl, ExtT.refl _ _ _, hX⟩
                      exact AllFrom.nil
                    · intro D f w1 hall hB hR hX
                      simp only [putAll, Act.put, List.setIfInBounds_toArray, List.set_cons_succ, List.set_cons_zero]
                      go_wp2_with fail
                      go_meet
                      exact ⟨hR 11 (by decide), box_cut hB (hR 9 (by decide)) (hX (hall 10 (by decide))) (hR 7 (by decide))⟩
                  rename World => W9
                  obtain ⟨rfl, g9, s9, a9, n9, c9, o9, m9, d9, rfl, hg9, x9, cq9, b9⟩ := hcut
                  have HB9 : Hid (Below M W7 W9) := HB8.out.trans (b9.mono hM8.out)
                  have hM9 : Hid (M ≤ W9.heap.size) := Nat.le_trans hM8.out b9.size
                  have hv9 := Lib.hid (row_below hv8.out b9)
                  have hu9 := Lib.hid (row_below hu8.out b9)
                  have hlc9 := Lib.hid (hlc8.out.below b9)
                  have X9 := Lib.hid x9
                  have CQ9 := Lib.hid cq9
                  have hg9v : Hid (v.ownBlock ≠ some g9) := fun q => by have := (hv8.out.lt _ q).2; omega
                  have hg9u : Hid (u.ownBlock ≠ some g9) := fun q => by have := (hu8.out.lt _ q).2; omega
                  have FLR : Hid (Calls Try.prog 35 #[.agg #[.bool s9, .slice a9 n9 c9, .slice o9 m9 d9]] W9 (MakesQ (fq (cj : Int) 1) K2 W9)) := by
                    have h := Floor_k s9 a9 o9 n9 c9 m9 d9 K2 ((p j : Nat) : Int) (P : Int) HPP.out (by omega) W9 (by rw [← HYY.out]; exact cq9.rq)
                    rw [HFL.out j, ← HCJ.out] at h
                    exact h
                  obtain ⟨f0, f1, f2, _⟩ := at_block x9
                  clear hg9 x9 cq9 b9 HB8 hM8 hv8 hu8 hlc8 KU KS FT MU QU XS8 RS8 RX8 HXY
                  go_wp2_with fail
                  refine FLR.out.mono ?_; rintro e w10 ⟨s10, a10, n10, c10, o10, m10, d10, rfl, cq10, b10⟩
                  obtain ⟨W11, hW11⟩ : ∃ W, W = w10.alloc (.cells #[.bool s10, .slice a10 n10 c10, .slice o10 m10 d10] 33) := ⟨_, rfl⟩
                  obtain ⟨g11, hg11⟩ : ∃ g, g = w10.heap.size := ⟨_, rfl⟩
                  have b11 : Below w10.heap.size w10 W11 := by rw [hW11]; exact below_new _ _
                  have x11 : Hid (W11.heap[g11]? = some (.cells #[.bool s10, .slice a10 n10 c10, .slice o10 m10 d10] 33 (0, 0))) := by rw [hW11, hg11]; exact heap_alloc_new _ _
                  have bb := b10.trans (b11.mono b10.size)
                  have HB11 : Hid (Below M W7 W11) := HB9.out.trans (bb.mono hM9.out)
                  have hM11 : Hid (M ≤ W11.heap.size) := Nat.le_trans hM9.out bb.size
                  have hv11 := Lib.hid (row_below hv9.out bb)
                  have hu11 := Lib.hid (row_below hu9.out bb)
                  have hlc11 := Lib.hid (hlc9.out.below bb)
                  have X9' := Lib.hid (carry X9.out bb)
                  have CQ9' := Lib.hid (CQ9.out.below bb)
                  have CQ11 : Hid (CQ 0 W11 s10 a10 n10 c10 o10 m10 d10 (fq (cj : Int) 1) K2) := (cq10.below b11).mono (Nat.zero_le _)
                  have hg11v : Hid (v.ownBlock ≠ some g11) := fun q => by have := (hv9.out.lt _ q).2; have := b10.size; omega
                  have hg11u : Hid (u.ownBlock ≠ some g11) := fun q => by have := (hu9.out.lt _ q).2; have := b10.size; omega
                  clear cq10 b10 b11 bb FLR f0 f1 f2 HB9 hM9 hv9 hu9 hlc9 X9 CQ9
                  go_upto_region 21 with fail
                  rw [← hW11]
                  try rw [← hg11]
                  clear hW11 hg11
                  obtain ⟨f0, f1, f2, _⟩ := at_block x11.out
                  have IN := Lib.hid (Int_k _ _ _ _ _ _ _ _ cj 0 (by omega) W11 CQ11.out)
                  go_wp2_with fail
                  refine IN.out.mono ?_; rintro e w12 ⟨rfl, b12⟩
                  have HB12 : Hid (Below M W7 w12) := HB11.out.trans (b12.mono hM11.out)
                  have hM12 : Hid (M ≤ w12.heap.size) := Nat.le_trans hM11.out b12.size
                  have hv12 := Lib.hid (row_below hv11.out b12)
                  have hu12 := Lib.hid (row_below hu11.out b12)
                  have hlc12 := Lib.hid (hlc11.out.below b12)
                  have X9 := Lib.hid (carry X9'.out b12)
                  have CQ9 := Lib.hid (CQ9'.out.below b12)
                  have X11 := Lib.hid (carry x11.out b12)
                  have CQ12 := Lib.hid (CQ11.out.below b12)
                  have hm12 : M ≤ w12.heap.size := hM12.out
                  clear b12 IN f0 f1 f2 HB11 hM11 hv11 hu11 hlc11 X9' CQ9' x11 CQ11
                  go_upto_region 22 with (at_builtin; refine wpList_append_lies _ rfl _ _ 23 rfl M 3 i0 (.int .i64 0) 1 8 Try.underlying23 hi hz0 hz1 hz2 rfl (by omega) _ _ _ rfl (hv12.out.alloc _) ⟨w12.heap.size, 0, none⟩ 1 1 [.int .i64 (cj : Int)] rfl rfl (cell_one _ _ _) (by intro u hu; simp at hu; rcases hu with rfl; rfl) (by omega) (by unfold maxLen; omega) (by omega) (by simp; omega) (w12.heap.size + 1) (by simp) ?_; intro g13 c13 w13 hown13 hgr13 hat13 hlt13)
                  have nA := below_new w12 (.cells #[.int .i64 (cj : Int)] 3)
                  have aV := hv12.out.alloc (.cells #[.int .i64 (cj : Int)] 3)
                  have HV13 : Hid (w13.ownsRow M 3 1 (.slice (some ⟨g13, 0, none⟩) (j + 1) c13) (j + 1) (rowF (j + 1) cI)) := by unfold Hid; rw [rowF_snoc, HCI.out j, ← HCJ.out]; exact hown13
                  have hu13 := Lib.hid ((hu12.out.alloc (.cells #[.int .i64 (cj : Int)] 3)).kept hgr13 (rows_off (by decide) hu12.out hv12.out))
                  have hlc13 := Lib.hid (Lc.keepT (hlc12.out.below nA) aV (by decide) hgr13)
                  have b13 : Below M (w12.alloc (.cells #[.int .i64 (cj : Int)] 3)) w13 := rowT_below aV (Nat.le_refl _) (by simp; omega) hgr13
                  have HB13 : Hid (Below M W7 w13) := HB12.out.trans ((nA.mono hM12.out).trans b13)
                  have hM13 : Hid (M ≤ w13.heap.size) := Nat.le_trans (Nat.le_trans hM12.out nA.size) b13.size
                  have X9' : Hid (w13.heap[g9]? = some (.cells #[.bool s9, .slice a9 n9 c9, .slice o9 m9 d9] 33 (0, 0))) := (hgr13.block g9 (Array.getElem?_eq_some_iff.1 (carry X9.out nA)).1 (fun q => hg9v.out q.symm)).trans (carry X9.out nA)
                  have X11' : Hid (w13.heap[g11]? = some (.cells #[.bool s10, .slice a10 n10 c10, .slice o10 m10 d10] 33 (0, 0))) := (hgr13.block g11 (Array.getElem?_eq_some_iff.1 (carry X11.out nA)).1 (fun q => hg11v.out q.symm)).trans (carry X11.out nA)
                  have CQ9' := Lib.hid (CQ.keepT (CQ9.out.below nA) aV (by decide) hgr13)
                  have CQ11 := Lib.hid (CQ.keepT (CQ12.out.below nA) aV (by decide) hgr13)
                  have SB : Hid (Calls Try.prog 18 #[.agg #[.bool s9, .slice a9 n9 c9, .slice o9 m9 d9], .agg #[.bool s10, .slice a10 n10 c10, .slice o10 m10 d10]] w13 (MakesQ (fq (rI j) (P : Int)) K3 w13)) := by
                    have h := rSub_q _ _ _ _ _ _ _ _ _ _ _ _ _ _ K2 _ _ w13 CQ9'.out.rq CQ11.out.rq (by have := HK.out; omega)
                    have e2 := fq_frac (p := ((p j : Nat) : Int)) HPP.out (by omega)
                    rw [HFL.out j, ← HCJ.out, HMD.out j] at e2
                    rw [HYY.out, e2, ← HK.out.2.2.2] at h
                    exact h
                  have hlb13 : Hid (g13 < w13.heap.size) := hlt13
                  obtain ⟨f0, f1, f2, _⟩ := at_block X9'.out
                  obtain ⟨y0, y1, y2, _⟩ := at_block X11'.out
                  clear nA aV hown13 hgr13 hat13 hlt13 b13 hv12 hu12 hlc12 X9 X11 CQ9 CQ12 HB12 hM12 hm12
                  go_wp2_with fail
                  refine SB.out.mono ?_; rintro e w14 ⟨s14, a14, n14, c14, o14, m14, d14, rfl, cq14, b14⟩
                  have HB14 : Hid (Below M W7 w14) := HB13.out.trans (b14.mono hM13.out)
                  have hM14 : Hid (M ≤ w14.heap.size) := Nat.le_trans hM13.out b14.size
                  have hv14 := Lib.hid (row_below HV13.out b14)
                  have hu14 := Lib.hid (row_below hu13.out b14)
                  have hlc14 := Lib.hid (hlc13.out.below b14)
                  have X11 := Lib.hid (carry X11'.out b14)
                  have CQ12 := Lib.hid (CQ11.out.below b14)
                  have CQ14 := Lib.hid (cq14.mono hM13.out)
                  have hm14 : M ≤ w14.heap.size := hM14.out
                  clear b14 cq14 SB f0 f1 f2 y0 y1 y2 HB13 hM13 HV13 hu13 hlc13 X9' X11' CQ9' CQ11
                  go_upto_region 23 with (at_builtin; refine wpList_append_lies _ rfl _ _ 22 rfl M 33 k0 (.agg #[.bool false, .slice none 0 0, .slice none 0 0]) 3 56 Try.underlying22 hk hy0 hy1 hy2 rfl (by omega) _ _ _ rfl (hu14.out.alloc _) ⟨w14.heap.size, 0, none⟩ 1 1 [.bool s14, .slice a14 n14 c14, .slice o14 m14 d14] rfl rfl (three_cell _ _ _ _ _) (by intro u hu; simp at hu; rcases hu with rfl | rfl | rfl <;> rfl) (by omega) (by unfold maxLen; omega) (by omega) (by simp; omega) (w14.heap.size + 1) (by simp) ?_; intro g15 c15 w15 hown15 hgr15 hat15 hlt15)
                  have nA := below_new w14 (.cells #[.bool s14, .slice a14 n14 c14, .slice o14 m14 d14] 33)
                  have aU := hu14.out.alloc (.cells #[.bool s14, .slice a14 n14 c14, .slice o14 m14 d14] 33)
                  have HU15 : Hid (w15.ownsRow M 33 3 (.slice (some ⟨g15, 0, none⟩) (j + 1) c15) (j + 1) (rvs (es ++ [⟨s14, a14, n14, c14, o14, m14, d14⟩]))) := by unfold Hid; rw [rvs_append]; exact hown15
                  have HV15 := Lib.hid ((hv14.out.alloc (.cells #[.bool s14, .slice a14 n14 c14, .slice o14 m14 d14] 33)).kept hgr15 (rows_off (by decide) hv14.out hu14.out))
                  have HL15 : Hid (Lc M w15 (es ++ [⟨s14, a14, n14, c14, o14, m14, d14⟩]) ((List.range (j + 1)).map fun x => fq (rI x) (P : Int)) K3) := by
                    unfold Hid
                    rw [List.range_succ, List.map_append]
                    exact ((hlc14.out.below nA).keepRow aU hgr15).snoc ((CQ14.out.below nA).keepRow3 aU hgr15)
                  have b15 : Below M (w14.alloc (.cells #[.bool s14, .slice a14 n14 c14, .slice o14 m14 d14] 33)) w15 := rowT_below aU (Nat.le_refl _) (by simp; omega) hgr15
                  have HB15 : Hid (Below M W7 w15) := HB14.out.trans ((nA.mono hM14.out).trans b15)
                  have hM15 : Hid (M ≤ w15.heap.size) := Nat.le_trans (Nat.le_trans hM14.out nA.size) b15.size
                  have X11' : Hid (w15.heap[g11]? = some (.cells #[.bool s10, .slice a10 n10 c10, .slice o10 m10 d10] 33 (0, 0))) := (hgr15.block g11 (Array.getElem?_eq_some_iff.1 (carry X11.out nA)).1 (fun q => hg11u.out q.symm)).trans (carry X11.out nA)
                  have CQ15 := Lib.hid ((CQ12.out.below nA).keepRow3 aU hgr15)
                  have IN := Lib.hid (Int_k _ _ _ _ _ _ _ _ cj 0 (by omega) w15 CQ15.out)
                  obtain ⟨y0, y1, y2, _⟩ := at_block X11'.out
                  clear nA aU hown15 hgr15 hat15 hlt15 b15 hv14 hu14 hlc14 X11 CQ12 CQ14 HB14 hM14 hm14
                  go_wp2_with fail
                  refine IN.out.mono ?_; rintro e w16 ⟨rfl, b16⟩
                  have HV16 := Lib.hid (row_below HV15.out b16)
                  have HU16 := Lib.hid (row_below HU15.out b16)
                  have HL16 := Lib.hid (HL15.out.below b16)
                  have HB16 : Hid (Below M W7 w16) := HB15.out.trans (b16.mono hM15.out)
                  clear b16 IN y0 y1 y2 HV15 HU15 HL15 HB15 hM15 X11' CQ15
                  go_wp2_with fail
                  go_roundw
                  case rel => exact ⟨j + 1, _, _, _, l1, by omega, by go_num, rfl, rfl, rfl, hl1e, HV16, HU16, HL16, HB16⟩
                  case measure => simp [intOf]; omega
                · obtain rfl : j = i := by omega
                  have hjl2 : ¬ (j : Int) < (j : Int) := by omega
                  obtain ⟨gv, cv, rfl, hgv, hcv1, hcv2⟩ := row_ptr hv.out h1
                  obtain ⟨gu, cu, rfl, hgu, hcu1, hcu2⟩ := row_ptr hu.out h1
                  obtain rfl : l = (lf : Int) := by have := hl.out; have := HLF.out; have := HLE.out; omega
                  have hlfj : lf < j := by have := HLF.out; have := HLE.out; omega
                  have hmx : maxLen ≤ 9223372036854775807 := by unfold maxLen; omega
                  have hcv3 : cv ≤ 9223372036854775807 := by omega
                  have hcu3 : cu ≤ 9223372036854775807 := by omega
                  have HV0 : Hid (wr.ownsRow M 3 1 (.slice (some ⟨gv, 0, none⟩) j cv) j (rowF j (fun x => cI x + ((upN od 0 x : Nat) : Int)))) := by
                    have e : rowF j (fun x => cI x + ((upN od 0 x : Nat) : Int)) = rowF j cI := by
                      unfold rowF
                      apply List.map_congr_left
                      intro x _
                      show Value.int .i64 (cI x + ((upN od 0 x : Nat) : Int)) = Value.int .i64 (cI x)
                      rw [upN_zero]
                      simp
                    unfold Hid
                    rw [e]
                    exact hv.out
                  have HL0 : Hid (Lc M wr es ((List.range j).map (rstQ rI (P : Int) od 0)) K3) := by
                    have e : (List.range j).map (rstQ rI (P : Int) od 0) = (List.range j).map fun x => fq (rI x) (P : Int) := by
                      apply List.map_congr_left
                      intro x _
                      exact rst_zero rI (P : Int) od x
                    unfold Hid
                    rw [e]
                    exact hlc.out
                  have HU0 := Lib.hid hu.out
                  have HB0 := Lib.hid hb.out
                  have HGV : Hid (M ≤ gv) := hgv
                  have HGU : Hid (M ≤ gu) := hgu
                  have HMW : Hid (M = W7.heap.size) := HM.out
                  clear hl hv hu hlc hb hbM hgv hgu
                  go_wp2_with fail
                  go_loopw [11] (fun s11 wq => ∃ (k m : Nat) (es : List RV), k + m = lf ∧ s11 = .int .i64 (m : Int) ∧ Hid (wq.ownsRow M 3 1 (.slice (some ⟨gv, 0, none⟩) j cv) j (rowF j (fun x => cI x + ((upN od k x : Nat) : Int)))) ∧ Hid (wq.ownsRow M 33 3 (.slice (some ⟨gu, 0, none⟩) j cu) j (rvs es)) ∧ Hid (Lc M wq es ((List.range j).map (rstQ rI (P : Int) od k)) K3) ∧ Hid (Below M W7 wq)) (fun s11 _ => (intOf s11).toNat)
                  case atStart => exact ⟨0, lf, es, by omega, rfl, HV0, HU0, HL0, HB0⟩
                  case round =>
                    obtain ⟨k', m, es', hkm, rfl, hv, hu, hlc, hb⟩ := hrel
                    by_cases hm : 0 < m
                    · have hm2 : (0 : Int) < (m : Int) := by omega
                      have hk8 : k' < j := by omega
                      obtain ⟨F, hF⟩ : ∃ F, F = rstQ rI (P : Int) od k' := ⟨_, rfl⟩
                      have HF1 := Lib.hid hF
                      unfold Hid at hlc
                      rw [← hF] at hlc
                      have HLC := Lib.hid hlc
                      clear hF hlc
                      have HVI := hv
                      have HUI := hu
                      have HBI := hb
                      clear hv hu hb
                      go_wp2_with fail
                      go_loopw [90, 17] (fun s90 s17 wi => ∃ (x b : Nat), x ≤ j ∧ s90 = .int .i64 (x : Int) ∧ s17 = .int .i64 (b : Int) ∧ Hid (b = amx F x) ∧ b < j ∧ Hid (wi.ownsRow M 3 1 (.slice (some ⟨gv, 0, none⟩) j cv) j (rowF j (fun x => cI x + ((upN od k' x : Nat) : Int)))) ∧ Hid (wi.ownsRow M 33 3 (.slice (some ⟨gu, 0, none⟩) j cu) j (rvs es')) ∧ Hid (Lc M wi es' ((List.range j).map F) K3) ∧ Hid (Below M W7 wi)) (fun s90 _ _ => j - (intOf s90).toNat)
                      case atStart => exact ⟨0, 0, by omega, rfl, rfl, rfl, by omega, HVI, HUI, HLC, HBI⟩
                      case round =>
                        obtain ⟨x, b, hxj, rfl, rfl, hbx, hbj, hv, hu, hlc, hb⟩ := hrel
                        have hwM : Hid (M ≤ wr.heap.size) := by unfold Hid; have := hb.out.size; have := HMW.out; omega
                        by_cases hxl : x < j
                        · have hxl2 : (x : Int) < (j : Int) := by omega
                          have hbl2 : (b : Int) < (j : Int) := by omega
                          have hel : es'.length = j := by have := hlc.out.1; simpa using this
                          obtain ⟨ra', rc', e', hrd⟩ := RdR.of_row hu.out
                          simp only [Value.slice.injEq] at e'
                          obtain ⟨rfl, -, rfl⟩ := e'
                          obtain ⟨b1, o1, e1, hat⟩ := hrd.at (by omega)
                          cases e1
                          obtain ⟨ra, hra⟩ : ∃ r, r = es'.getD x RV.nil := ⟨_, rfl⟩
                          obtain ⟨rb, hrb⟩ : ∃ r, r = es'.getD b RV.nil := ⟨_, rfl⟩
                          have ka : At3 wr gu (x * 3) ra := by rw [hra]; simpa using hat x (by omega)
                          have kb : At3 wr gu (b * 3) rb := by rw [hrb]; simpa using hat b (by omega)
                          have qa : CQ M wr ra.s ra.ao ra.n ra.ca ra.bo ra.m ra.cb (F x) K3 := by
                            have := hlc.out.2 x (by omega)
                            rw [← hra] at this
                            rwa [show ((List.range j).map F).getD x 0 = F x by simp [List.getD, hxl]] at this
                          have qb : CQ M wr rb.s rb.ao rb.n rb.ca rb.bo rb.m rb.cb (F b) K3 := by
                            have := hlc.out.2 b (by omega)
                            rw [← hrb] at this
                            rwa [show ((List.range j).map F).getD b 0 = F b by simp [List.getD, hbj]] at this
                          obtain ⟨C, hC⟩ : ∃ C, C = cq (F x) (F b) := ⟨_, rfl⟩
                          have hCF : 0 < C ↔ F b < F x := by
                            have h1 := cq_neg_iff (F b) (F x)
                            have h2 := cq_swap (F x) (F b)
                            rw [hC]
                            rw [h2] at h1
                            constructor
                            · intro h; exact h1.1 (by omega)
                            · intro h; have := h1.2 h; omega
                          have hax : amx F (x + 1) = if F (amx F x) < F x then x else amx F x := rfl
                          rw [← hbx.out] at hax
                          have KA : Hid (∀ w', Below wr.heap.size wr w' → At3 w' gu (x * 3) ra) := fun w' hb => ka.below hb
                          have KB : Hid (∀ w', Below wr.heap.size wr w' → At3 w' gu (b * 3) rb) := fun w' hb => kb.below hb
                          have CN : Hid (∀ w', Below wr.heap.size wr w' → Calls Try.prog 19 #[.agg #[.bool ra.s, .slice ra.ao ra.n ra.ca, .slice ra.bo ra.m ra.cb], .agg #[.bool rb.s, .slice rb.ao rb.n rb.ca, .slice rb.bo rb.m rb.cb]] w' fun e w2 => e = .returned (.int .i64 C) ∧ Below w'.heap.size w' w2) := fun w' hb => by
                            rw [hC]
                            exact rCompare_q _ _ _ _ _ _ _ _ _ _ _ _ _ _ K3 (F x) (F b) w' ((qa.below hb).rq) ((qb.below hb).rq) (by have := HK.out; omega)
                          by_cases hc : 0 < C
                          · have hcd : decide (0 < C) = true := decide_eq_true hc
                            have HAX : Hid (x = amx F (x + 1)) := by unfold Hid; rw [hax, if_pos (hCF.1 hc)]
                            clear hat hra hrb ka kb qa qb hC hCF hax hrd hel hbx
                            go_upto_region 30 with fail
                            refine wp_region_held_drew (S := fun w' => Below wr.heap.size wr w') (by kernel_rfl) ((Below.refl _ _).drew) (fun hH => ?_)
                            refine wpAnyH_take (i := 0) (v := (.slice (some ⟨gu, 0, none⟩) j cu)) rfl (by kernel_rfl) (by kernel_rfl) (by kernel_rfl) (fun _ _ _ h => h) (Or.inl ⟨by kernel_rfl, ?_⟩) hH ?_
                            · intro w1 hB
                              go_simp
                            change wpAnyH _ _ _ _ _ _ _ (Act.put _ (some 93) _) _
                            try simp only [Act.put, List.setIfInBounds_toArray, List.set_cons_zero, List.set_cons_succ]
                            refine wpAnyH_take (i := 1) (v := (.int .i64 (x : Int))) rfl (by kernel_rfl) (by kernel_rfl) (by kernel_rfl) (fun _ _ _ h => h) (Or.inl ⟨by kernel_rfl, ?_⟩) hH ?_
                            · intro w1 hB
                              go_simp
                            change wpAnyH _ _ _ _ _ _ _ (Act.put _ (some 94) _) _
                            try simp only [Act.put, List.setIfInBounds_toArray, List.set_cons_zero, List.set_cons_succ]
                            refine wpAnyH_take (i := 2) (v := (.pointer (some ⟨gu, x * 3, none⟩))) rfl (by kernel_rfl) (by kernel_rfl) (by kernel_rfl) (fun _ _ _ h => h) (Or.inl ⟨by kernel_rfl, ?_⟩) hH ?_
                            · intro w1 hB
                              go_simp
                            change wpAnyH _ _ _ _ _ _ _ (Act.put _ (some 95) _) _
                            try simp only [Act.put, List.setIfInBounds_toArray, List.set_cons_zero, List.set_cons_succ]
                            refine wpAnyH_take (i := 3) (v := (.agg #[.bool ra.s, .slice ra.ao ra.n ra.ca, .slice ra.bo ra.m ra.cb])) rfl (by kernel_rfl) (by kernel_rfl) (by kernel_rfl) (fun _ _ _ h => h) (Or.inl ⟨by kernel_rfl, ?_⟩) hH ?_
                            · intro w1 hB
                              obtain ⟨k0, k1, k2⟩ := KA.out w1 hB
                              obtain ⟨l0, l1, l2⟩ := KB.out w1 hB
                              go_simp
                            change wpAnyH _ _ _ _ _ _ _ (Act.put _ (some 96) _) _
                            try simp only [Act.put, List.setIfInBounds_toArray, List.set_cons_zero, List.set_cons_succ]
                            refine wpAnyH_take (i := 4) (v := (.slice (some ⟨gu, 0, none⟩) j cu)) rfl (by kernel_rfl) (by kernel_rfl) (by kernel_rfl) (fun _ _ _ h => h) (Or.inl ⟨by kernel_rfl, ?_⟩) hH ?_
                            · intro w1 hB
                              go_simp
                            change wpAnyH _ _ _ _ _ _ _ (Act.put _ (some 97) _) _
                            try simp only [Act.put, List.setIfInBounds_toArray, List.set_cons_zero, List.set_cons_succ]
                            refine wpAnyH_take (i := 5) (v := (.int .i64 (b : Int))) rfl (by kernel_rfl) (by kernel_rfl) (by kernel_rfl) (fun _ _ _ h => h) (Or.inl ⟨by kernel_rfl, ?_⟩) hH ?_
                            · intro w1 hB
                              go_simp
                            change wpAnyH _ _ _ _ _ _ _ (Act.put _ (some 98) _) _
                            try simp only [Act.put, List.setIfInBounds_toArray, List.set_cons_zero, List.set_cons_succ]
                            refine wpAnyH_take (i := 6) (v := (.pointer (some ⟨gu, b * 3, none⟩))) rfl (by kernel_rfl) (by kernel_rfl) (by kernel_rfl) (fun _ _ _ h => h) (Or.inl ⟨by kernel_rfl, ?_⟩) hH ?_
                            · intro w1 hB
                              go_simp
                            change wpAnyH _ _ _ _ _ _ _ (Act.put _ (some 99) _) _
                            try simp only [Act.put, List.setIfInBounds_toArray, List.set_cons_zero, List.set_cons_succ]
                            refine wpAnyH_take (i := 7) (v := (.agg #[.bool rb.s, .slice rb.ao rb.n rb.ca, .slice rb.bo rb.m rb.cb])) rfl (by kernel_rfl) (by kernel_rfl) (by kernel_rfl) (fun _ _ _ h => h) (Or.inl ⟨by kernel_rfl, ?_⟩) hH ?_
                            · intro w1 hB
                              obtain ⟨k0, k1, k2⟩ := KA.out w1 hB
                              obtain ⟨l0, l1, l2⟩ := KB.out w1 hB
                              go_simp
                            change wpAnyH _ _ _ _ _ _ _ (Act.put _ (some 100) _) _
                            try simp only [Act.put, List.setIfInBounds_toArray, List.set_cons_zero, List.set_cons_succ]
                            refine wpAnyH_ready (rs := [8]) (by kernel_rfl) (by simp) ?_
                            refine AllReadyH.cons rfl (fun K hK => ?_) AllReadyH.nil
                            go_simp
                            refine (CN.out _ hH).mono ?_
                            rintro e V8 ⟨rfl, v8⟩
                            try go_simp
                            refine hK.out _ _ (keepB v8 hH (Nat.le_refl _)) (fun hH8 => ?_)
                            clear hK K
                            try simp only [Act.put, List.setIfInBounds_toArray, List.set_cons_zero, List.set_cons_succ]
                            refine wpAnyH_take (i := 9) (v := (.bool true)) rfl (by kernel_rfl) (by kernel_rfl) (by kernel_rfl) (fun _ _ _ h => h) (Or.inl ⟨by kernel_rfl, ?_⟩) hH8 ?_
                            · intro w1 hB
                              go_simp
                            change wpAnyH _ _ _ _ _ _ _ (Act.put _ (some 102) _) _
                            try simp only [Act.put, List.setIfInBounds_toArray, List.set_cons_zero, List.set_cons_succ]
                            refine wpAnyH_done (by kernel_rfl) ?_ _
                            have BV : Below wr.heap.size wr V8 := hH8
                            have HV8 := Lib.hid (row_below hv.out BV)
                            have HU8 := Lib.hid (row_below hu.out BV)
                            have HL8 := Lib.hid (hlc.out.below BV)
                            have HB8 : Hid (Below M W7 V8) := hb.out.trans (BV.mono hwM.out)
                            clear BV hv hu hlc hb KA KB CN hwM
                            go_wp2_with fail
                            go_roundw
                            case rel => exact ⟨x + 1, x, by omega, by go_num, rfl, HAX, hxl, HV8, HU8, HL8, HB8⟩
                            case measure => simp [intOf]; omega
                          · have hcd : decide (0 < C) = false := decide_eq_false hc
                            have HAX : Hid (b = amx F (x + 1)) := by unfold Hid; rw [hax, if_neg (fun q => hc (hCF.2 q))]
                            clear hat hra hrb ka kb qa qb hC hCF hax hrd hel hbx
                            go_upto_region 30 with fail
                            refine wp_region_held_drew (S := fun w' => Below wr.heap.size wr w') (by kernel_rfl) ((Below.refl _ _).drew) (fun hH => ?_)
                            refine wpAnyH_take (i := 0) (v := (.slice (some ⟨gu, 0, none⟩) j cu)) rfl (by kernel_rfl) (by kernel_rfl) (by kernel_rfl) (fun _ _ _ h => h) (Or.inl ⟨by kernel_rfl, ?_⟩) hH ?_
                            · intro w1 hB
                              go_simp
                            change wpAnyH _ _ _ _ _ _ _ (Act.put _ (some 93) _) _
                            try simp only [Act.put, List.setIfInBounds_toArray, List.set_cons_zero, List.set_cons_succ]
                            refine wpAnyH_take (i := 1) (v := (.int .i64 (x : Int))) rfl (by kernel_rfl) (by kernel_rfl) (by kernel_rfl) (fun _ _ _ h => h) (Or.inl ⟨by kernel_rfl, ?_⟩) hH ?_
                            · intro w1 hB
                              go_simp
                            change wpAnyH _ _ _ _ _ _ _ (Act.put _ (some 94) _) _
                            try simp only [Act.put, List.setIfInBounds_toArray, List.set_cons_zero, List.set_cons_succ]
                            refine wpAnyH_take (i := 2) (v := (.pointer (some ⟨gu, x * 3, none⟩))) rfl (by kernel_rfl) (by kernel_rfl) (by kernel_rfl) (fun _ _ _ h => h) (Or.inl ⟨by kernel_rfl, ?_⟩) hH ?_
                            · intro w1 hB
                              go_simp
                            change wpAnyH _ _ _ _ _ _ _ (Act.put _ (some 95) _) _
                            try simp only [Act.put, List.setIfInBounds_toArray, List.set_cons_zero, List.set_cons_succ]
                            refine wpAnyH_take (i := 3) (v := (.agg #[.bool ra.s, .slice ra.ao ra.n ra.ca, .slice ra.bo ra.m ra.cb])) rfl (by kernel_rfl) (by kernel_rfl) (by kernel_rfl) (fun _ _ _ h => h) (Or.inl ⟨by kernel_rfl, ?_⟩) hH ?_
                            · intro w1 hB
                              obtain ⟨k0, k1, k2⟩ := KA.out w1 hB
                              obtain ⟨l0, l1, l2⟩ := KB.out w1 hB
                              go_simp
                            change wpAnyH _ _ _ _ _ _ _ (Act.put _ (some 96) _) _
                            try simp only [Act.put, List.setIfInBounds_toArray, List.set_cons_zero, List.set_cons_succ]
                            refine wpAnyH_take (i := 4) (v := (.slice (some ⟨gu, 0, none⟩) j cu)) rfl (by kernel_rfl) (by kernel_rfl) (by kernel_rfl) (fun _ _ _ h => h) (Or.inl ⟨by kernel_rfl, ?_⟩) hH ?_
                            · intro w1 hB
                              go_simp
                            change wpAnyH _ _ _ _ _ _ _ (Act.put _ (some 97) _) _
                            try simp only [Act.put, List.setIfInBounds_toArray, List.set_cons_zero, List.set_cons_succ]
                            refine wpAnyH_take (i := 5) (v := (.int .i64 (b : Int))) rfl (by kernel_rfl) (by kernel_rfl) (by kernel_rfl) (fun _ _ _ h => h) (Or.inl ⟨by kernel_rfl, ?_⟩) hH ?_
                            · intro w1 hB
                              go_simp
                            change wpAnyH _ _ _ _ _ _ _ (Act.put _ (some 98) _) _
                            try simp only [Act.put, List.setIfInBounds_toArray, List.set_cons_zero, List.set_cons_succ]
                            refine wpAnyH_take (i := 6) (v := (.pointer (some ⟨gu, b * 3, none⟩))) rfl (by kernel_rfl) (by kernel_rfl) (by kernel_rfl) (fun _ _ _ h => h) (Or.inl ⟨by kernel_rfl, ?_⟩) hH ?_
                            · intro w1 hB
                              go_simp
                            change wpAnyH _ _ _ _ _ _ _ (Act.put _ (some 99) _) _
                            try simp only [Act.put, List.setIfInBounds_toArray, List.set_cons_zero, List.set_cons_succ]
                            refine wpAnyH_take (i := 7) (v := (.agg #[.bool rb.s, .slice rb.ao rb.n rb.ca, .slice rb.bo rb.m rb.cb])) rfl (by kernel_rfl) (by kernel_rfl) (by kernel_rfl) (fun _ _ _ h => h) (Or.inl ⟨by kernel_rfl, ?_⟩) hH ?_
                            · intro w1 hB
                              obtain ⟨k0, k1, k2⟩ := KA.out w1 hB
                              obtain ⟨l0, l1, l2⟩ := KB.out w1 hB
                              go_simp
                            change wpAnyH _ _ _ _ _ _ _ (Act.put _ (some 100) _) _
                            try simp only [Act.put, List.setIfInBounds_toArray, List.set_cons_zero, List.set_cons_succ]
                            refine wpAnyH_ready (rs := [8]) (by kernel_rfl) (by simp) ?_
                            refine AllReadyH.cons rfl (fun K hK => ?_) AllReadyH.nil
                            go_simp
                            refine (CN.out _ hH).mono ?_
                            rintro e V8 ⟨rfl, v8⟩
                            try go_simp
                            refine hK.out _ _ (keepB v8 hH (Nat.le_refl _)) (fun hH8 => ?_)
                            clear hK K
                            try simp only [Act.put, List.setIfInBounds_toArray, List.set_cons_zero, List.set_cons_succ]
                            refine wpAnyH_take (i := 9) (v := (.bool false)) rfl (by kernel_rfl) (by kernel_rfl) (by kernel_rfl) (fun _ _ _ h => h) (Or.inl ⟨by kernel_rfl, ?_⟩) hH8 ?_
                            · intro w1 hB
                              go_simp
                            change wpAnyH _ _ _ _ _ _ _ (Act.put _ (some 102) _) _
                            try simp only [Act.put, List.setIfInBounds_toArray, List.set_cons_zero, List.set_cons_succ]
                            refine wpAnyH_done (by kernel_rfl) ?_ _
                            have BV : Below wr.heap.size wr V8 := hH8
                            have HV8 := Lib.hid (row_below hv.out BV)
                            have HU8 := Lib.hid (row_below hu.out BV)
                            have HL8 := Lib.hid (hlc.out.below BV)
                            have HB8 : Hid (Below M W7 V8) := hb.out.trans (BV.mono hwM.out)
                            clear BV hv hu hlc hb KA KB CN hwM
                            go_wp2_with fail
                            go_roundw
                            case rel => exact ⟨x + 1, b, by omega, by go_num, rfl, HAX, hbj, HV8, HU8, HL8, HB8⟩
                            case measure => simp [intOf]; omega
                        · obtain rfl : x = j := by omega
                          have hxl2 : ¬ (x : Int) < (x : Int) := by omega
                          have hbo : b = od.getD k' 0 := by
                            have h := hbx.out
                            rw [HF1.out] at h
                            exact h.trans (rst_best HO.out HPP.out HR0.out hk8)
                          have HBO := Lib.hid hbo
                          have hbi2 : (b : Int) < (x : Int) := by omega
                          obtain ⟨z, hz⟩ : ∃ z : Int, z = cI b + ((upN od k' b : Nat) : Int) := ⟨_, rfl⟩
                          have hzb : 0 ≤ z ∧ z ≤ 1048577 := by have := HCB.out b hbj; rw [hz, HCI.out b]; unfold upN; split <;> omega
                          have c0' : wr.cell? ⟨gv, b, none⟩ = some (.int .i64 z) := (hv.out.cellAt b (by omega)).trans (by rw [rowF_get hbj, hz])
                          have f0' := hv.out.frozenAt b
                          obtain ⟨hs, hgs'⟩ := hv.out.stored b (.int .i64 (z + 1))
                          obtain ⟨W33, hW33⟩ : ∃ W, W = wr.setCell ⟨gv, b, none⟩ (.int .i64 (z + 1)) := ⟨_, rfl⟩
                          have gb33 : wr.grownBy W33 (some gv) := by rw [hW33]; exact gbs wr gv b (.int .i64 (z + 1))
                          have HV33 : Hid (W33.ownsRow M 3 1 (.slice (some ⟨gv, 0, none⟩) x cv) x (rowF x (fun y => cI y + ((upN od (k' + 1) y : Nat) : Int)))) := by
                            unfold Hid
                            rw [← rowF_up HO.out cI hk8, ← hbo, ← hz, hW33]
                            exact hs
                          have HU33 := Lib.hid (hu.out.kept gb33 (rows_off (by decide) hu.out hv.out))
                          have HL33 := Lib.hid (Lc.keepT hlc.out hv.out (by decide) gb33)
                          have b33 : Below M wr W33 := rowT_below hv.out (Nat.le_refl _) hwM.out gb33
                          have HB33 : Hid (Below M W7 W33) := hb.out.trans b33
                          have hM33 : Hid (M ≤ W33.heap.size) := Nat.le_trans hwM.out b33.size
                          have hzw : IntKind.i64.wrap (z + 1) = z + 1 := IntWalk.i64_in _ (by omega)
                          have FI : Hid (Calls Try.prog 17 #[.int .i64 (-1)] W33 (MakesQ (-1) 2 W33)) := rFromInt_z (-1) (by omega) (by omega) W33
                          clear hs hgs' gb33 b33 hv hu hlc hb hbx hz hbo hwM
                          go_upto_region 34 with fail
                          rw [← hW33]
                          clear hW33 c0' f0'
                          go_wp2_with fail
                          refine FI.out.mono ?_; rintro e w34 ⟨s6, a6, n6, c6, o6, m6, d6, rfl, cq6, b6⟩
                          have hu34 := row_below HU33.out b6
                          have hv34 := row_below HV33.out b6
                          have hl34 := HL33.out.below b6
                          have hel : es'.length = x := by have := hl34.1; simpa using this
                          obtain ⟨q0, hq0⟩ : ∃ v, w34.cell? ⟨gu, b * 3, none⟩ = some v := ⟨_, (hu34.cellAt (b * 3) (by omega)).trans (List.getElem?_eq_getElem (by rw [rvs_length]; omega))⟩
                          obtain ⟨q1, hq1⟩ : ∃ v, w34.cell? ⟨gu, b * 3 + 1, none⟩ = some v := ⟨_, (hu34.cellAt (b * 3 + 1) (by omega)).trans (List.getElem?_eq_getElem (by rw [rvs_length]; omega))⟩
                          obtain ⟨q2, hq2⟩ : ∃ v, w34.cell? ⟨gu, b * 3 + 2, none⟩ = some v := ⟨_, (hu34.cellAt (b * 3 + 2) (by omega)).trans (List.getElem?_eq_getElem (by rw [rvs_length]; omega))⟩
                          have hf0 := hu34.frozenAt (b * 3)
                          have hf1 := hu34.frozenAt (b * 3 + 1)
                          have hf2 := hu34.frozenAt (b * 3 + 2)
                          obtain ⟨RS1, RS2⟩ := row_set3 hu34 b ⟨s6, a6, n6, c6, o6, m6, d6⟩
                          have HV35 := Lib.hid (hv34.kept RS2 (rows_off (by decide) hv34 hu34))
                          have HU35 := Lib.hid RS1
                          have C6 := CQ.resize (l := K3) ((cq6.mono hM33.out).keepRow3 hu34 RS2) (by have := HK.out; exact Sm.up (sm_small (by decide)) (show 1 ≤ K3 by omega) (by omega)) (by have := HK.out; exact Sm.up (sm_small (by decide)) (show 1 ≤ K3 by omega) (by omega))
                          have HL35 : Hid (Lc M (((w34.setCell ⟨gu, b * 3, none⟩ (.bool s6)).setCell ⟨gu, b * 3 + 1, none⟩ (.slice a6 n6 c6)).setCell ⟨gu, b * 3 + 2, none⟩ (.slice o6 m6 d6)) (es'.set b ⟨s6, a6, n6, c6, o6, m6, d6⟩) ((List.range x).map (rstQ rI (P : Int) od (k' + 1))) K3) := by
                            unfold Hid
                            rw [← rst_set HO.out (P : Int) hk8, ← HBO.out, ← HF1.out]
                            exact Lc.put (hl34.keepRow hu34 RS2) b C6
                          have b35 : Below M w34 (((w34.setCell ⟨gu, b * 3, none⟩ (.bool s6)).setCell ⟨gu, b * 3 + 1, none⟩ (.slice a6 n6 c6)).setCell ⟨gu, b * 3 + 2, none⟩ (.slice o6 m6 d6)) := rowT_below hu34 (Nat.le_refl _) (Nat.le_trans hM33.out b6.size) RS2
                          have HB35 : Hid (Below M W7 (((w34.setCell ⟨gu, b * 3, none⟩ (.bool s6)).setCell ⟨gu, b * 3 + 1, none⟩ (.slice a6 n6 c6)).setCell ⟨gu, b * 3 + 2, none⟩ (.slice o6 m6 d6))) := HB33.out.trans ((b6.mono hM33.out).trans b35)
                          obtain ⟨m1, hm1⟩ : ∃ m1 : Nat, m = m1 + 1 := ⟨m - 1, by omega⟩
                          have hmi : (m : Int) - 1 = (m1 : Int) := by omega
                          have hmw : IntKind.i64.wrap (m1 : Int) = (m1 : Int) := IntWalk.i64_in _ (by omega)
                          have hm1' : Hid (m = m1 + 1) := hm1
                          clear hu34 hv34 hl34 hel cq6 b6 RS1 RS2 C6 b35 HV33 HU33 HL33 HB33 hM33 FI hm1
                          go_wp2_with fail
                          go_roundw
                          case rel => exact ⟨k' + 1, m1, _, by have := hm1'.out; omega, rfl, HV35, HU35, HL35, HB35⟩
                          case measure => have := hm1'.out; simp [intOf]; omega
                    · obtain rfl : m = 0 := by omega
                      obtain rfl : k' = lf := by omega
                      have hm2 : ¬ (0 : Int) < 0 := by omega
                      have FIN : Hid (RdZ wr (some ⟨gv, 0, none⟩) cv (partL f j t od)) := by
                        have h := hv.out
                        rw [HFIN.out] at h
                        exact rdz_row (zs := partL f j t od) (by simp [partL]) h
                      have HBW : Hid (Below w.heap.size w wr) := HW7.out.trans (hb.out.mono (by rw [HM.out]; exact HW7.out.size))
                      clear hv hu hlc hb
                      go_wp2_with fail
                      refine bodyPost_ret (v := .tuple #[.slice (some ⟨gv, 0, none⟩) j cv, .int .i64 0]) (by simp [results, Try.results10, go_sem]) rfl ?_
                      exact .inr (.inr ⟨hall.out, t, rfl, htN, some ⟨gv, 0, none⟩, cv, rfl, FIN.out, HBW.out⟩)
end Go.Proofs.Ytcnghhlchjcdhaa.Dr
/- Allocate of both: what the code gives the reference gives, too; slices that another box does not touch. -/
namespace Go.Proofs.Ytcnghhlchjcdhaa.Dr
open Go.RowKit Go.Sort C6

theorem cell_keep {w w' : World} {B : Nat} (g : w.grownBy w' (some B)) {b o : Nat} {v : Value} (h : w.cell? ⟨b, o, none⟩ = some v) (hne : b ≠ B) : w'.cell? ⟨b, o, none⟩ = some v :=
  (World.cell?_of_block (a := ⟨b, o, none⟩) (g.block b (World.block_lt_of_cell? _ _ h) (fun q => hne (Option.some.inj q)))).trans h
theorem tap_cells {w : World} {B : Nat} {ao : Option Addr} {n cap i : Nat} (h : Tap w B ao n cap i) {j : Nat} {v : Value} (hv : w.cell? ⟨B, j, none⟩ = some v) : (∃ a n c, v = .slice a n c) ∨ ∃ x, v = .int .i64 x := by
  unfold Tap at h
  simp only [World.cell?, h] at hv
  have hj : j < 2 := by
    by_cases hj : j < 2
    · exact hj
    · exfalso
      simp at hv
      have hl := (List.getElem?_eq_some_iff.1 hv).1
      simp at hl
      omega
  have hj2 : j = 0 ∨ j = 1 := by omega
  rcases hj2 with rfl | rfl
  · left; simp at hv; exact ⟨_, _, _, hv.symm⟩
  · right; simp at hv; exact ⟨_, hv.symm⟩
theorem Rd.keepTap {w w' : World} {B : Nat} {to' : Option Addr} {n tc i : Nat} {ao : Option Addr} {cap : Nat} {xs : List Nat} (h : Rd w ao cap xs) (ht : Tap w B to' n tc i) (g : w.grownBy w' (some B)) : Rd w' ao cap xs := by
  refine ⟨h.1, h.2.1, h.2.2.1, ?_⟩
  rcases h.2.2.2 with hn | ⟨b, o, rfl, hc⟩
  · exact .inl hn
  · refine .inr ⟨b, o, rfl, fun j hj => cell_keep g (hc j hj) (fun e => ?_)⟩
    have h1 := hc j hj
    rw [e] at h1
    rcases tap_cells ht h1 with ⟨_, _, _, q⟩ | ⟨_, q⟩
    · cases q
    · cases q
theorem RQ.keepTap {w w' : World} {B : Nat} {to' : Option Addr} {n' tc i : Nat} {s : Bool} {ao : Option Addr} {n ca : Nat} {bo : Option Addr} {m cb : Nat} {q : Rat} {k : Nat} (h : RQ w s ao n ca bo m cb q k) (ht : Tap w B to' n' tc i) (g : w.grownBy w' (some B)) : RQ w' s ao n ca bo m cb q k := by
  obtain ⟨N, D, ⟨xs, e1, r1, v1, l1⟩, ⟨ys, e2, r2, v2, l2⟩, h3⟩ := h
  exact ⟨N, D, ⟨xs, e1, Rd.keepTap r1 ht g, v1, l1⟩, ⟨ys, e2, Rd.keepTap r2 ht g, v2, l2⟩, h3⟩
theorem RdR.keepTap {w w' : World} {B : Nat} {to' : Option Addr} {n tc i : Nat} {ao : Option Addr} {cap : Nat} {rs : List RV} (h : RdR w ao cap rs) (ht : Tap w B to' n tc i) (g : w.grownBy w' (some B)) : RdR w' ao cap rs := by
  obtain ⟨h1, h2, h3⟩ := h
  refine ⟨h1, h2, ?_⟩
  rcases h3 with h3 | ⟨b, o, rfl, h3⟩
  · exact .inl h3
  · refine .inr ⟨b, o, rfl, fun j hj => ?_⟩
    obtain ⟨c0, c1, c2⟩ := h3 j hj
    have hne : b ≠ B := fun e => by
      have h1 := c0
      rw [e] at h1
      rcases tap_cells ht h1 with ⟨_, _, _, q⟩ | ⟨_, q⟩
      · cases q
      · cases q
    exact ⟨cell_keep g c0 hne, cell_keep g c1 hne, cell_keep g c2 hne⟩
theorem RL.keepTap {w w' : World} {B : Nat} {to' : Option Addr} {n tc i : Nat} {rs : List RV} {f : Nat → Rat} {N k : Nat} (h : RL w rs f N k) (ht : Tap w B to' n tc i) (g : w.grownBy w' (some B)) : RL w' rs f N k := ⟨h.1, fun j hj => RQ.keepTap (h.2 j hj) ht g⟩
theorem Ls.rl {w : World} {rs : List RV} {xs : List Rat} {k : Nat} (h : Ls w rs xs k) {N : Nat} (hN : rs.length = N) : RL w rs (fun j => xs.getD j 0) N k := ⟨hN, fun i hi => h.2 i (by omega)⟩

/-- what the code gives the reference gives, too -/
def BothA (tot : Int) (N : Nat) (ao : Option Addr) (cap : Nat) (w : World) (e : Ending) (w' : World) : Prop := Below w.heap.size w w' ∧ ∃ a c n E L, e = .returned (.tuple #[.slice a n c, .int .i64 E]) ∧ n = L.length ∧ RdZ w' a c L ∧
  (∀ w3, Below w.heap.size w w3 → Calls Try.prog 10 #[.int .i64 tot, .slice ao N cap] w3 fun e w4 => ∃ a' c', e = .returned (.tuple #[.slice a' n c', .int .i64 E]) ∧ RdZ w4 a' c' L ∧ Below w3.heap.size w3 w4)
theorem Allocate_both (tot : Int) (N : Nat) (ao : Option Addr) (cap : Nat) (rs : List RV) (f : Nat → Rat) (w : World) (hN : N ≤ 8) (h : RdR w ao cap rs) (hf : RL w rs f N 2) :
    Calls Try.prog 9 #[.int .i64 tot, .slice ao N cap] w (BothA tot N ao cap w) := by
  refine (Allocate_v tot N 2 ao cap rs f w (by omega) ⟨by omega, by omega⟩ h hf).mono ?_
  rintro e w' (⟨hc, rfl, hb⟩ | ⟨hc, ht, rfl, hb⟩ | ⟨hc, t, rfl, ht, od, g, ho, rfl, hrow, hb⟩)
  · refine ⟨hb, none, 0, 0, 100, [], rfl, rfl, RdV.nil _, fun w3 h3 => (rAllocate_v tot N ao cap rs f [] w3 hN (h.below h3) (hf.below h3) (fun _ _ _ q => by rw [hc] at q; cases q)).mono ?_⟩
    rintro e w4 (⟨_, rfl, b4⟩ | ⟨q, _⟩ | ⟨q, _⟩)
    · exact ⟨none, 0, rfl, RdV.nil _, b4⟩
    · rw [hc] at q; cases q
    · rw [hc] at q; cases q
  · refine ⟨hb, none, 0, 0, 101, [], rfl, rfl, RdV.nil _, fun w3 h3 => (rAllocate_v tot N ao cap rs f [] w3 hN (h.below h3) (hf.below h3) (fun t e1 e2 _ => by omega)).mono ?_⟩
    rintro e w4 (⟨q, _⟩ | ⟨_, _, rfl, b4⟩ | ⟨_, t, e1, e2, _⟩)
    · rw [hc] at q; cases q
    · exact ⟨none, 0, rfl, RdV.nil _, b4⟩
    · omega
  · have hl : (partL f N t od).length = N := by simp [partL]
    have hrd : RdZ w' (some ⟨g, 0, none⟩) N (partL f N t od) := by
      have h1 : w'.ownsRow w.heap.size 3 1 (.slice (some ⟨g, 0, none⟩) N N) N (intz (partL f N t od)) := by rw [← rowF_parts f N t od]; exact hrow
      exact rdz_row hl h1
    refine ⟨hb, some ⟨g, 0, none⟩, N, N, 0, partL f N t od, rfl, hl.symm, hrd, fun w3 h3 => (rAllocate_v (t : Int) N ao cap rs f od w3 hN (h.below h3) (hf.below h3) (fun t' e1 _ _ => (show t = t' by omega) ▸ ho)).mono ?_⟩
    rintro e w4 (⟨q, _⟩ | ⟨_, q, _⟩ | ⟨_, t', e1, _, a, c, rfl, r4, b4⟩)
    · rw [hc] at q; cases q
    · omega
    · obtain rfl : t' = t := by omega
      exact ⟨a, c, rfl, r4, b4⟩
theorem SameZ {ao bo : Option Addr} {ca cb L : Nat} {l : List Int} {w : World} (hL : L = l.length) (hp : RdZ w ao ca l) (hq : RdZ w bo cb l) :
    Calls Try.prog 11 #[.slice ao L ca, .slice bo L cb] w fun e w' => e = .returned (.bool true) ∧ Below w.heap.size w w' := by
  have h := S10.SameInts_v ao bo ca cb l l w hp hq
  rw [← hL] at h
  simpa using h
end Go.Proofs.Ytcnghhlchjcdhaa.Dr
