import Derived.Test.YtcnghhlchjcdhaaDuA
import Derived.Test.YtcnghhlchjcdhaaDuB
import Derived.Test.YtcnghhlchjcdhaaEstA
import Derived.Test.YtcnghhlchjcdhaaSmpAw
import Derived.Test.YtcnghhlchjcdhaaInts10
/- SampleAllocates: the walk. -/
namespace Go.Proofs.Ytcnghhlchjcdhaa.Dr
open Go.RowKit Go.Sort C6

set_option maxHeartbeats 32000000 in
set_option maxRecDepth 100000 in
theorem SampleAllocates_any (tot : Int) (ao : Option Addr) (us : List RV) (ca : Nat) (to' : Option Addr) (ts : List Int) (tc : Nat) (w : World) (hu : RdR w ao ca us) (hur : ∀ r ∈ us, Raw w r) (ht : RdZ w to' tc ts) :
    Calls Try.prog 3 #[.int .i64 tot, .slice ao us.length ca, .slice to' ts.length tc] w fun e w' => e = .returned (.bool true) ∧ Below w.heap.size w w' := by
  obtain ⟨W1, hW1⟩ : ∃ W, W = w.alloc (.cells #[.slice to' ts.length tc, .int .i64 0] 26) := ⟨_, rfl⟩
  obtain ⟨B, hB⟩ : ∃ B, B = w.heap.size := ⟨_, rfl⟩
  have b1 : Below w.heap.size w W1 := by rw [hW1]; exact below_new _ _
  have T1 : Hid (Tap W1 B to' ts.length tc 0) := by rw [hW1, hB]; exact Tap.new w to' ts.length tc
  have R1 : Hid (RdZ W1 to' tc ts) := ht.below b1
  have hTB : Hid (0 < (intz ts).length → ∀ b o, to' = some ⟨b, o, none⟩ → b < B) := fun h b o e => by rw [hB]; exact ht.lt h b o e
  have HBB : Hid (B = w.heap.size) := hB
  have B1 := Lib.hid b1
  have S1 := Lib.hid (Smalls8_any ao ca us W1 (hu.below b1) (fun r hr => (hur r hr).below b1))
  obtain ⟨nu, hnu⟩ : ∃ n, n = us.length := ⟨_, rfl⟩
  unfold Hid at S1
  rw [← hnu] at S1 ⊢
  have S1 := Lib.hid S1
  clear hu hur ht b1 hnu
  go_enter Try.func3, Try.ntmps3
  go_wp2_with fail
  rw [← hW1]
  try rw [← hB]
  clear hW1 hB
  refine S1.out.mono ?_; rintro e W2 ⟨ro, rc, us1, rfl, hl1, hrd1, hus1, b2⟩
  obtain ⟨xs1, hx1⟩ := Ls.of_all hus1
  obtain ⟨n1, hn1⟩ : ∃ n, n = us1.length := ⟨_, rfl⟩
  rw [← hn1] at hl1 ⊢
  have HTU : Hid (Tap W2 B to' ts.length tc 0) := T1.out.keep b2
  have HRU := Lib.hid hrd1
  have HLU : Hid (RL W2 us1 (fun j => xs1.getD j 0) n1 2) := Ls.rl hx1 hn1.symm
  have R2 : Hid (RdZ W2 to' tc ts) := R1.out.below b2
  have HB2 : Hid (Below w.heap.size w W2) := B1.out.trans (b2.mono B1.out.size)
  clear hrd1 hus1 hx1 b2 hn1 T1 R1 B1 S1
  go_wp2_with fail
  refine (Next_v B to' tc ts 0 6 _ HTU.out R2.out (by omega) (by omega) (by omega) 6 rfl).mono ?_; rintro e W3' ⟨r1, rfl, hr1, g2, z2, t2⟩
  have R3 := Lib.hid (rd_gbE R2.out hTB.out (Nat.le_of_lt HTU.out.lt) g2)
  have G2 := Lib.hid g2
  have T3 := Lib.hid t2
  obtain ⟨N, hN⟩ : ∃ x : Nat, x = 1 + r1 := ⟨_, rfl⟩
  have hN6 : N ≤ 6 := by omega
  have hN1 : 1 ≤ N := by omega
  have hNi : 1 + (r1 : Int) = (N : Int) := by omega
  have hNw : IntKind.i64.wrap (N : Int) = (N : Int) := IntWalk.i64_in _ (by omega)
  obtain ⟨M, hM⟩ : ∃ M, M = W3'.heap.size := ⟨_, rfl⟩
  have HMB : Hid (B < M) := by unfold Hid; rw [hM]; exact t2.lt
  have HMM : Hid (M = W3'.heap.size) := hM
  have HG23 : Hid (W2.heap.size ≤ W3'.heap.size) := g2.size
  clear hN hr1 g2 z2 t2 R2 hM
  go_wp2_with fail
  refine (Ratios_v B to' tc ts 1 N _ T3.out R3.out hTB.out (by omega) (by omega)).mono ?_; rintro e W3 ⟨v, rs, xs, rfl, hown, hrl, hlc, -, g3, t3⟩
  obtain ⟨gl, lc, rfl, hgl, hlc1, hlc2⟩ := row_ptr hown hN1
  have hmx : maxLen ≤ 9223372036854775807 := by unfold maxLen; omega
  have hlc3 : lc ≤ 9223372036854775807 := by omega
  rw [← HMM.out] at hown hlc hgl
  have HRN : Hid (rs.length = N) := hrl
  have R3' := Lib.hid (rd_gbE R3.out hTB.out (Nat.le_of_lt T3.out.lt) g3)
  have G3' : Hid (W2.grownBy W3 (some B)) := gb_trans G2.out g3
  have O3 := Lib.hid hown
  have L3 := Lib.hid hlc
  have T3' := Lib.hid t3
  have HGL : Hid (M ≤ gl) := hgl
  clear hown hrl hlc g3 t3 hgl hNi hNw G2 R3 T3
  go_wp2_with fail
  refine (Next_v B to' tc ts (1 + 2 * N) 3 _ T3'.out R3'.out (by omega) (by omega) (by omega) 3 rfl).mono ?_; rintro e W4 ⟨r0, rfl, hr0, g4, z4, t4⟩
  have O4 := Lib.hid (O3.out.kept g4 (C6.row_block O3.out HMB.out))
  have L4 := Lib.hid (L3.out.gb HMB.out g4)
  have R4 := Lib.hid (rd_gbE R3'.out hTB.out (Nat.le_of_lt T3'.out.lt) g4)
  have G4 := Lib.hid g4
  have T4 := Lib.hid t4
  have G3 := G3'
  clear g4 z4 t4 O3 L3 R3' T3' G3'
  by_cases hz : r0 = 0
  · subst hz
    have hz0 : (((0 : Nat) : Int) == 0) = true := rfl
    have hz1 : ((0 : Int) == 0) = true := rfl
    have hNi2 : (N : Int) ≤ 6 := by omega
    go_wp2_with fail
    refine (Next_v B to' tc ts (1 + 2 * N + 1) N _ T4.out R4.out (by omega) (by omega) (by omega) (N : Int) rfl).mono ?_; rintro e W5 ⟨r2, rfl, hr2, g5, z5, t5⟩
    have O5 := Lib.hid (O4.out.kept g5 (C6.row_block O4.out HMB.out))
    have L5 := Lib.hid (L4.out.gb HMB.out g5)
    have R5 := Lib.hid (rd_gbE R4.out hTB.out (Nat.le_of_lt T4.out.lt) g5)
    have T5 := Lib.hid t5
    have G5 : Hid (W2.grownBy W5 (some B)) := gb_trans (gb_trans G3.out G4.out) g5
    have hr2i : (r2 : Int) < (N : Int) := by omega
    have hM5 : Hid (M ≤ W5.heap.size) := by unfold Hid; have h5 := O5.out.lt gl rfl; omega
    clear g5 z5 t5 O4 L4 R4 G3 G4 T4
    go_wp2_with fail
    refine (Signed_v B to' tc ts (1 + 2 * N + 1 + 1) _ T5.out R5.out hTB.out (by omega)).mono ?_; rintro e W6 ⟨s6, a6, n6, c6, o6, m6, d6, q6, rfl, cq6, g6, t6⟩
    have O6 := O5.out.kept g6 (C6.row_block O5.out HMB.out)
    have L6 := L5.out.gb HMB.out g6
    have hrn := HRN.out
    obtain ⟨q0, hq0⟩ : ∃ v, W6.cell? ⟨gl, r2 * 3, none⟩ = some v := ⟨_, (O6.cellAt (r2 * 3) (by omega)).trans (List.getElem?_eq_getElem (by rw [rvs_length]; omega))⟩
    obtain ⟨q1, hq1⟩ : ∃ v, W6.cell? ⟨gl, r2 * 3 + 1, none⟩ = some v := ⟨_, (O6.cellAt (r2 * 3 + 1) (by omega)).trans (List.getElem?_eq_getElem (by rw [rvs_length]; omega))⟩
    obtain ⟨q2, hq2⟩ : ∃ v, W6.cell? ⟨gl, r2 * 3 + 2, none⟩ = some v := ⟨_, (O6.cellAt (r2 * 3 + 2) (by omega)).trans (List.getElem?_eq_getElem (by rw [rvs_length]; omega))⟩
    have hf0 := O6.frozenAt (r2 * 3)
    have hf1 := O6.frozenAt (r2 * 3 + 1)
    have hf2 := O6.frozenAt (r2 * 3 + 2)
    obtain ⟨RS1, RS2⟩ := row_set3 O6 r2 ⟨s6, a6, n6, c6, o6, m6, d6⟩
    obtain ⟨W7, hW7⟩ : ∃ W, W = ((W6.setCell ⟨gl, r2 * 3, none⟩ (.bool s6)).setCell ⟨gl, r2 * 3 + 1, none⟩ (.slice a6 n6 c6)).setCell ⟨gl, r2 * 3 + 2, none⟩ (.slice o6 m6 d6) := ⟨_, rfl⟩
    rw [← hW7] at RS1 RS2
    have L7 : Hid (Lc M W7 (rs.set r2 ⟨s6, a6, n6, c6, o6, m6, d6⟩) (xs.set r2 q6) 2) := Lc.put (L6.keepRow O6 RS2) r2 ((cq6.mono hM5.out).keepRow3 O6 RS2)
    have hBg : B ≠ gl := by have := HMB.out; have := HGL.out; omega
    have T7 : Hid (Tap W7 B to' ts.length tc (1 + 2 * N + 1 + 1 + 2)) := t6.grown RS2 (fun q => hBg (Option.some.inj q))
    have G6 : W2.grownBy W6 (some B) := gb_trans G5.out g6
    have GG7 : Hid (W2.grownBy W7 (some B)) := gb_rowU G6 O6 (by rw [HMM.out]; exact HG23.out) RS2
    have R6 : RdZ W6 to' tc ts := rd_gbE R5.out hTB.out (Nat.le_of_lt T5.out.lt) g6
    have R7 : Hid (RdZ W7 to' tc ts) := R6.keep (fun h b o e => by have := hTB.out h b o e; have := HMB.out; have := HGL.out; omega) (gb_below RS2 (by have := O6.lt gl rfl; omega))
    have RD7 : Hid (RdR W7 (some ⟨gl, 0, none⟩) lc (rs.set r2 ⟨s6, a6, n6, c6, o6, m6, d6⟩)) := by
      obtain ⟨ra, rc', e1, hrd⟩ := RdR.of_row RS1
      simp only [Value.slice.injEq] at e1
      obtain ⟨e2, -, e3⟩ := e1
      rw [e2, e3]
      exact hrd
    clear R6 RS1 RS2 O6 L6 cq6 g6 t6 G6 hrn O5 L5 R5 T5 G5 hM5 hBg
    go_upto_region 6 with fail
    rw [← hW7]
    clear hW7 hq0 hq1 hq2 hf0 hf1 hf2
    have GALL : Hid (W2.grownBy W7 (some B)) := GG7.out
    have HRD9 : Hid (RdR W7 (some ⟨gl, 0, none⟩) lc (rs.set r2 ⟨s6, a6, n6, c6, o6, m6, d6⟩)) := RD7.out
    have HRL9 : Hid (RL W7 (rs.set r2 ⟨s6, a6, n6, c6, o6, m6, d6⟩) (fun j => (xs.set r2 q6).getD j 0) N 2) := Ls.rl (L7.out.ls) (by rw [List.length_set]; exact HRN.out)
    have HU9 : Hid (RdR W7 ro rc us1) := RdR.keepTap HRU.out HTU.out GALL.out
    have HV9 : Hid (RL W7 us1 (fun j => xs1.getD j 0) n1 2) := RL.keepTap HLU.out HTU.out GALL.out
    have HBW9 : Hid (Below w.heap.size w W7) := HB2.out.trans (row_gb GALL.out HB2.out.size (fun j e => by cases e; rw [HBB.out]; exact Nat.le_refl _))
    have TP := Lib.hid (T7.out)
    have RT := Lib.hid (R7.out)
    clear GG7 RD7 L7 T7 R7 hr0
    go_wp2_with fail
    refine (Next_v B to' tc ts (1 + 2 * N + 1 + 1 + 2) 60 _ TP.out RT.out (by omega) (by omega) (by omega) 60 rfl).mono ?_; rintro e Y1 ⟨rt, rfl, hrt, gy, zy, ty⟩
    have hgM : Hid (B < M) := HMB.out
    have HRD1 := Lib.hid (RdR.keepTap HRD9.out TP.out gy)
    have HRL1 := Lib.hid (RL.keepTap HRL9.out TP.out gy)
    have HU1 : Hid (RdR Y1 ro rc us1) := RdR.keepTap HU9.out TP.out gy
    have HV1 : Hid (RL Y1 us1 (fun j => xs1.getD j 0) n1 2) := RL.keepTap HV9.out TP.out gy
    have HBY : Hid (Below w.heap.size w Y1) := HBW9.out.trans (row_gb gy HBW9.out.size (fun j e => by cases e; rw [HBB.out]; exact Nat.le_refl _))
    have A1 := Lib.hid (Allocate_both tot n1 ro rc us1 _ Y1 (by omega) HU1.out HV1.out)
    clear gy zy ty TP RT GALL HRD9 HRL9 HU9 HV9 HBW9 HTU HRU HLU
    go_wp2_with fail
    refine A1.out.mono ?_; rintro e Y2 ⟨b2, a2, c2, n2, E2', L2, rfl, hn2, rd2, R2'⟩
    have RC2 : Hid (∀ w3, Below Y1.heap.size Y1 w3 → Calls Try.prog 10 #[.int .i64 tot, .slice ro n1 rc] w3 fun e w4 => ∃ a' c', e = .returned (.tuple #[.slice a' n2 c', .int .i64 E2']) ∧ RdZ w4 a' c' L2 ∧ Below w3.heap.size w3 w4) := R2'
    have HY2 := Lib.hid b2
    have HD2 := Lib.hid rd2
    have HN2 := Lib.hid hn2
    clear b2 rd2 R2' A1 hn2
    go_wp2_with fail
    refine (RC2.out _ HY2.out).mono ?_; rintro e Y3 ⟨a3, c3, rfl, rd3, b3⟩
    have HY3 : Hid (Below Y1.heap.size Y1 Y3) := HY2.out.trans (b3.mono HY2.out.size)
    have HD2' := Lib.hid (HD2.out.below b3)
    have HD3 := Lib.hid rd3
    have A2 := Lib.hid (Allocate_both (rt : Int) N (some ⟨gl, 0, none⟩) lc _ _ Y3 (by omega) (HRD1.out.below HY3.out) (HRL1.out.below HY3.out))
    clear b3 rd3 RC2 HD2 HY2
    go_wp2_with fail
    refine A2.out.mono ?_; rintro e Y4 ⟨b4, a4, c4, n4, E4, L4, rfl, hn4, rd4, R4'⟩
    have RC4 : Hid (∀ w3, Below Y3.heap.size Y3 w3 → Calls Try.prog 10 #[.int .i64 (rt : Int), .slice (some ⟨gl, 0, none⟩) N lc] w3 fun e w4 => ∃ a' c', e = .returned (.tuple #[.slice a' n4 c', .int .i64 E4]) ∧ RdZ w4 a' c' L4 ∧ Below w3.heap.size w3 w4) := R4'
    have HY4 := Lib.hid b4
    have HD4 := Lib.hid rd4
    have HN4 := Lib.hid hn4
    have HD2 := Lib.hid (HD2'.out.below b4)
    have HD3' := Lib.hid (HD3.out.below b4)
    clear b4 rd4 R4' A2 hn4 HD2' HD3
    go_wp2_with fail
    refine (RC4.out _ HY4.out).mono ?_; rintro e Y5 ⟨a5, c5, rfl, rd5, b5⟩
    have HY5 : Hid (Below Y3.heap.size Y3 Y5) := HY4.out.trans (b5.mono HY4.out.size)
    have HF2 := Lib.hid (HD2.out.below b5)
    have HF3 := Lib.hid (HD3'.out.below b5)
    have HF4 := Lib.hid (HD4.out.below b5)
    have HF5 := Lib.hid rd5
    have HW5 : Hid (Below w.heap.size w Y5) := HBY.out.trans ((HY3.out.trans (HY5.out.mono HY3.out.size)).mono HBY.out.size)
    have EQ2 : (E2' == E2') = true := beq_self_eq_true _
    have EQ4 : (E4 == E4) = true := beq_self_eq_true _
    clear b5 rd5 RC4 HD2 HD3' HD4 HY4 HY5 HY3 HBY HRD1 HRL1 HU1 HV1
    go_wp2_with fail
    refine (SameZ HN2.out HF2.out HF3.out).mono ?_; rintro e Y6 ⟨rfl, b6⟩
    have HG4 := Lib.hid (HF4.out.below b6)
    have HG5 := Lib.hid (HF5.out.below b6)
    have HW6 : Hid (Below w.heap.size w Y6) := HW5.out.trans (b6.mono HW5.out.size)
    clear b6 HF2 HF3 HF4 HF5 HW5
    go_wp2_with fail
    refine (SameZ HN4.out HG4.out HG5.out).mono ?_; rintro e Y7 ⟨rfl, b7⟩
    have HW7 : Hid (Below w.heap.size w Y7) := HW6.out.trans (b7.mono HW6.out.size)
    clear b7 HG4 HG5 HW6
    go_wp2_with fail
    refine (awake10 _).mono ?_; rintro e Y8 ⟨rfl, b8⟩
    have HW8 : Hid (Below w.heap.size w Y8) := HW7.out.trans (b8.mono HW7.out.size)
    clear b8
    go_wp2_with fail
    go_ret
    exact ⟨rfl, HW8.out⟩
  · have hne0 : ((r0 : Int) == 0) = false := beq_eq_false_iff_ne.2 (by omega)
    have hz' : (r0 : Int) ≠ 0 := by omega
    have RD4 : Hid (RdR W4 (some ⟨gl, 0, none⟩) lc rs) := by
      obtain ⟨ra, rc', e1, hrd⟩ := RdR.of_row O4.out
      simp only [Value.slice.injEq] at e1
      obtain ⟨e2, -, e3⟩ := e1
      rw [e2, e3]
      exact hrd
    go_upto_region 6 with fail
    have GALL : Hid (W2.grownBy W4 (some B)) := gb_trans G3.out G4.out
    have HRD9 : Hid (RdR W4 (some ⟨gl, 0, none⟩) lc rs) := (RD4.out)
    have HRL9 : Hid (RL W4 rs (fun j => xs.getD j 0) N 2) := Ls.rl (L4.out.ls) HRN.out
    have HU9 : Hid (RdR W4 ro rc us1) := RdR.keepTap HRU.out HTU.out GALL.out
    have HV9 : Hid (RL W4 us1 (fun j => xs1.getD j 0) n1 2) := RL.keepTap HLU.out HTU.out GALL.out
    have HBW9 : Hid (Below w.heap.size w W4) := HB2.out.trans (row_gb GALL.out HB2.out.size (fun j e => by cases e; rw [HBB.out]; exact Nat.le_refl _))
    have TP := Lib.hid (T4.out)
    have RT := Lib.hid (R4.out)
    clear G3 G4 RD4 L4 T4 R4 O4 hne0 hr0
    go_wp2_with fail
    refine (Next_v B to' tc ts (1 + 2 * N + 1) 60 _ TP.out RT.out (by omega) (by omega) (by omega) 60 rfl).mono ?_; rintro e Y1 ⟨rt, rfl, hrt, gy, zy, ty⟩
    have hgM : Hid (B < M) := HMB.out
    have HRD1 := Lib.hid (RdR.keepTap HRD9.out TP.out gy)
    have HRL1 := Lib.hid (RL.keepTap HRL9.out TP.out gy)
    have HU1 : Hid (RdR Y1 ro rc us1) := RdR.keepTap HU9.out TP.out gy
    have HV1 : Hid (RL Y1 us1 (fun j => xs1.getD j 0) n1 2) := RL.keepTap HV9.out TP.out gy
    have HBY : Hid (Below w.heap.size w Y1) := HBW9.out.trans (row_gb gy HBW9.out.size (fun j e => by cases e; rw [HBB.out]; exact Nat.le_refl _))
    have A1 := Lib.hid (Allocate_both tot n1 ro rc us1 _ Y1 (by omega) HU1.out HV1.out)
    clear gy zy ty TP RT GALL HRD9 HRL9 HU9 HV9 HBW9 HTU HRU HLU
    go_wp2_with fail
    refine A1.out.mono ?_; rintro e Y2 ⟨b2, a2, c2, n2, E2', L2, rfl, hn2, rd2, R2'⟩
    have RC2 : Hid (∀ w3, Below Y1.heap.size Y1 w3 → Calls Try.prog 10 #[.int .i64 tot, .slice ro n1 rc] w3 fun e w4 => ∃ a' c', e = .returned (.tuple #[.slice a' n2 c', .int .i64 E2']) ∧ RdZ w4 a' c' L2 ∧ Below w3.heap.size w3 w4) := R2'
    have HY2 := Lib.hid b2
    have HD2 := Lib.hid rd2
    have HN2 := Lib.hid hn2
    clear b2 rd2 R2' A1 hn2
    go_wp2_with fail
    refine (RC2.out _ HY2.out).mono ?_; rintro e Y3 ⟨a3, c3, rfl, rd3, b3⟩
    have HY3 : Hid (Below Y1.heap.size Y1 Y3) := HY2.out.trans (b3.mono HY2.out.size)
    have HD2' := Lib.hid (HD2.out.below b3)
    have HD3 := Lib.hid rd3
    have A2 := Lib.hid (Allocate_both (rt : Int) N (some ⟨gl, 0, none⟩) lc _ _ Y3 (by omega) (HRD1.out.below HY3.out) (HRL1.out.below HY3.out))
    clear b3 rd3 RC2 HD2 HY2
    go_wp2_with fail
    refine A2.out.mono ?_; rintro e Y4 ⟨b4, a4, c4, n4, E4, L4, rfl, hn4, rd4, R4'⟩
    have RC4 : Hid (∀ w3, Below Y3.heap.size Y3 w3 → Calls Try.prog 10 #[.int .i64 (rt : Int), .slice (some ⟨gl, 0, none⟩) N lc] w3 fun e w4 => ∃ a' c', e = .returned (.tuple #[.slice a' n4 c', .int .i64 E4]) ∧ RdZ w4 a' c' L4 ∧ Below w3.heap.size w3 w4) := R4'
    have HY4 := Lib.hid b4
    have HD4 := Lib.hid rd4
    have HN4 := Lib.hid hn4
    have HD2 := Lib.hid (HD2'.out.below b4)
    have HD3' := Lib.hid (HD3.out.below b4)
    clear b4 rd4 R4' A2 hn4 HD2' HD3
    go_wp2_with fail
    refine (RC4.out _ HY4.out).mono ?_; rintro e Y5 ⟨a5, c5, rfl, rd5, b5⟩
    have HY5 : Hid (Below Y3.heap.size Y3 Y5) := HY4.out.trans (b5.mono HY4.out.size)
    have HF2 := Lib.hid (HD2.out.below b5)
    have HF3 := Lib.hid (HD3'.out.below b5)
    have HF4 := Lib.hid (HD4.out.below b5)
    have HF5 := Lib.hid rd5
    have HW5 : Hid (Below w.heap.size w Y5) := HBY.out.trans ((HY3.out.trans (HY5.out.mono HY3.out.size)).mono HBY.out.size)
    have EQ2 : (E2' == E2') = true := beq_self_eq_true _
    have EQ4 : (E4 == E4) = true := beq_self_eq_true _
    clear b5 rd5 RC4 HD2 HD3' HD4 HY4 HY5 HY3 HBY HRD1 HRL1 HU1 HV1
    go_wp2_with fail
    refine (SameZ HN2.out HF2.out HF3.out).mono ?_; rintro e Y6 ⟨rfl, b6⟩
    have HG4 := Lib.hid (HF4.out.below b6)
    have HG5 := Lib.hid (HF5.out.below b6)
    have HW6 : Hid (Below w.heap.size w Y6) := HW5.out.trans (b6.mono HW5.out.size)
    clear b6 HF2 HF3 HF4 HF5 HW5
    go_wp2_with fail
    refine (SameZ HN4.out HG4.out HG5.out).mono ?_; rintro e Y7 ⟨rfl, b7⟩
    have HW7 : Hid (Below w.heap.size w Y7) := HW6.out.trans (b7.mono HW6.out.size)
    clear b7 HG4 HG5 HW6
    go_wp2_with fail
    refine (awake10 _).mono ?_; rintro e Y8 ⟨rfl, b8⟩
    have HW8 : Hid (Below w.heap.size w Y8) := HW7.out.trans (b8.mono HW7.out.size)
    clear b8
    go_wp2_with fail
    go_ret
    exact ⟨rfl, HW8.out⟩
end Go.Proofs.Ytcnghhlchjcdhaa.Dr
