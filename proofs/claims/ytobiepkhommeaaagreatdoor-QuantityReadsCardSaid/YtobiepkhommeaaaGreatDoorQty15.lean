import Derived.Test.YtobiepkhommeaaaGreatDoorQty14
/- Quantities: Parse of the reference, with a number of packages; both. -/
namespace Go.Proofs.YtobiepkhommeaaaGreatDoor
open Go.RowKit

theorem txt_none {l : List UInt8} (h : txtWhy l ≠ 0) : txtRes l = 0 := by
  by_cases hg : Good l
  · by_cases hl : l.length ≤ 4096
    · exact absurd (txt_fine hg hl).1 h
    · exact (txt_long hg (by omega)).2
  · exact (txt_bad hg).2

set_option maxHeartbeats 40000000 in
set_option maxRecDepth 100000 in
theorem rParse_many (s : ByteArray) (l : List UInt8) (hl : l = s.data.toList) (hs : s.size ≤ 1000) (hb : (Lib.cut l sepX).2.2 = true) (w : World) :
    Calls Tryz.prog 30 #[.string s] w fun e w' => e = .returned (.tuple #[.agg #[.int .i64 (rD l), .int .i64 (rC l), .int .i64 (rA l)], .int .i64 (rE l)]) ∧ Below w.heap.size w w' := by
  obtain ⟨hc1, hpl0⟩ := pC_many hb
  have hll : l.length ≤ 1000 := by rw [hl]; have := size_list s; omega
  obtain ⟨m, hm⟩ : ∃ m, m = (Lib.cut l sepX).2.1 := ⟨_, rfl⟩
  obtain ⟨h, hh⟩ : ∃ h, h = (Lib.cut l sepX).1 := ⟨_, rfl⟩
  have hpl : pL l = m := by rw [hm]; exact hpl0
  have hml : m.length ≤ 1000 := by rw [hm]; have := (cut_len l sepX).2; omega
  have hhl : h.length ≤ 1000 := by rw [hh]; have := (cut_len l sepX).1; omega
  rw [← hh] at hc1
  obtain ⟨T1, hT1⟩ : ∃ T, T = txtB h := ⟨_, rfl⟩
  obtain ⟨T2, hT2⟩ : ∃ T, T = txtB m := ⟨_, rfl⟩
  have CT0 : Hid (∀ w', Calls Tryz.prog 78 #[.string s, .string ⟨#[32, 120, 32]⟩] w' fun e w2 => e = .returned (.tuple #[.string T1, .string T2, .bool true]) ∧ Below w'.heap.size w' w2) := fun w' => by
    have h2 := rcut_v s ⟨#[32, 120, 32]⟩ l sepX w' hs (by decide) (by decide) hl rfl
    rwa [hb, ← hh, ← hm, ← hT1, ← hT2] at h2
  obtain ⟨R, hR⟩ : ∃ R, R = txtRes h := ⟨_, rfl⟩
  obtain ⟨yw, hyw⟩ : ∃ y, y = txtWhy h := ⟨_, rfl⟩
  have NP : Hid (∀ w', Calls Tryz.prog 79 #[.string T1] w' (PowPost yw R w')) := fun w' => by
    have h2 := rParse_any T1 w' (by rw [hT1, txtB_size]; omega)
    rwa [hT1, txtB_list, ← hR, ← hyw, ← hT1] at h2
  obtain ⟨v, hv⟩ : ∃ v : Nat, v = fitv R := ⟨_, rfl⟩
  obtain ⟨bb, hbb⟩ : ∃ b, b = fits R := ⟨_, rfl⟩
  have UC : Hid (∀ w' ao ca, Rd w' ao ca (dig R) → Calls Tryz.prog 80 #[.slice ao (dig R).length ca] w' fun e w'' => e = .returned (.tuple #[.int .u64 (v : Int), .bool bb]) ∧ w' = w'') := fun w' ao ca hrd => by
    have h2 := rUint_any ao ca (dig R) w' hrd (by rw [hR]; exact dig_txt (by omega))
    rwa [val_dig, ← hv, ← hbb] at h2
  have hRy : yw ≠ 0 → R = 0 := fun k => by rw [hR]; exact txt_none (by rw [← hyw]; exact k)
  have NOCT : Hid (R < 2 ∨ 100 < R → pE l ≠ 0) := fun k => bad_count (by rw [hc1]; exact pk_bad (by rw [← hR]; exact k))
  have hpk : ¬ (R < 2 ∨ 100 < R) → pC l = R := fun k => by rw [hc1, pk_ok (by rw [← hR]; exact k), hR]
  have hvf : R < 18446744073709551616 → v = R ∧ bb = true := fun k => by
    have := fitv_yes k
    exact ⟨by omega, by rw [hbb]; exact fits_yes k⟩
  have hvn : ¬ R < 18446744073709551616 → v = 0 ∧ bb = false := fun k => by
    have := fitv_no k
    exact ⟨by omega, by rw [hbb]; exact fits_no k⟩
  obtain ⟨S1, hS1⟩ : ∃ S, S = txtB (Lib.cut m [32]).1 := ⟨_, rfl⟩
  obtain ⟨S2, hS2⟩ : ∃ S, S = txtB (Lib.cut m [32]).2.1 := ⟨_, rfl⟩
  obtain ⟨t2, ht2⟩ : ∃ t, t = (Lib.cut m [32]).2.1 := ⟨_, rfl⟩
  obtain ⟨b2, hb2⟩ : ∃ x, x = (Lib.cut m [32]).2.2 := ⟨_, rfl⟩
  have hS1s : S1.size ≤ 1000 := by rw [hS1, txtB_size]; have := (cut_len m [32]).1; omega
  obtain ⟨Q, hQ⟩ : ∃ Q, Q = pqv (Lib.cut m [32]).1 := ⟨_, rfl⟩
  obtain ⟨cf, hcf⟩ : ∃ x : Prop, x = ¬ pOk (pneg (Lib.cut m [32]).1) (pbody (Lib.cut m [32]).1) := ⟨_, rfl⟩
  have HS2 : Hid (S2.data.toList = t2) := by unfold Hid; rw [hS2, txtB_list, ht2]
  have PA : Hid (∀ w', Calls Tryz.prog 81 #[.string S1] w' (FormRes cf Q 512 w')) := fun w' => by
    have h := rqParse_v S1 w' hS1s
    rwa [hS1, txtB_list, ← hcf, ← hQ, ← hS1] at h
  have HPU : Hid (pU l = namedU t2) := by unfold Hid; rw [ht2, ← hpl]; rfl
  have PAQ : Hid (pA l = amtN (Q * rq false (pU l).size.toNat 1)) := by unfold Hid; rw [hQ, ← hpl]; rfl
  have NOSP : Hid (b2 = false → pE l ≠ 0) := fun k => bad_dim (by
    rw [HPU.out, ht2]
    have : (Lib.cut m [32]).2.1 = [] := by
      rw [hb2] at k
      unfold Lib.cut at k ⊢
      split at k
      · cases k
      · rename_i h; rw [if_neg h]
    rw [this]; rfl)
  have NOFORM : Hid (cf → pE l ≠ 0) := fun k => bad_amount (by
    rw [hcf] at k
    unfold pA
    rw [hpl]
    exact amt_zero _ _ (pqv_bad k))
  have NOPOS : Hid (sgn Q ≤ 0 → pE l ≠ 0) := fun k => bad_amount (by
    rw [hQ] at k
    unfold pA
    rw [hpl]
    exact amt_neg k)
  have RPOS : Hid (0 < sgn Q → ∀ z : Nat, rs (Q * rq false z 1) = false) := fun k z => by rw [hQ] at k ⊢; exact amt_pos k
  have NONM : Hid ((∀ j : Nat, j < 10 → (rU.getD j Un.nil).name ≠ t2) → pE l ≠ 0) := fun k => bad_dim (by rw [HPU.out]; exact named_none k)
  have RBAD : Hid (pE l ≠ 0 → Ending.returned (.tuple #[.agg #[.int .i64 0, .int .i64 0, .int .i64 0], .int .i64 83]) = .returned (.tuple #[.agg #[.int .i64 (rD l), .int .i64 (rC l), .int .i64 (rA l)], .int .i64 (rE l)])) := fun k => by
    obtain ⟨e1, e2, e3, e4⟩ := r_bad k
    exact ret_q e2.symm e3.symm e4.symm e1.symm
  have CT : Hid (∀ w', Calls Tryz.prog 78 #[.string T2, .string ⟨#[32]⟩] w' fun e w2 => e = .returned (.tuple #[.string S1, .string S2, .bool b2]) ∧ Below w'.heap.size w' w2) := fun w' => by
    rw [hS1, hS2, hb2]; exact rcut_v T2 ⟨#[32]⟩ m [32] w' (by rw [hT2, txtB_size]; exact hml) (by decide) (by decide) (by rw [hT2, txtB_list]) rfl
  obtain ⟨Wa, hWa⟩ : ∃ W, W = w.alloc (.cells #[.int .i64 0, .int .i64 0, .int .i64 0] 39) := ⟨_, rfl⟩
  obtain ⟨W1, hW1⟩ : ∃ W, W = Wa.alloc (.cells #[.int .i64 0, .int .i64 1, .int .i64 0] 39) := ⟨_, rfl⟩
  have sa : Wa.heap.size = w.heap.size + 1 := by rw [hWa]; exact World.size_alloc _ _
  have ba : Below w.heap.size w Wa := by rw [hWa]; exact below_new _ _
  have b1 : Below Wa.heap.size Wa W1 := by rw [hW1]; exact below_new _ _
  have xa : Wa.heap[w.heap.size]? = some (.cells #[.int .i64 0, .int .i64 0, .int .i64 0] 39 (0, 0)) := by rw [hWa]; exact heap_alloc_new _ _
  have xq : W1.heap[w.heap.size + 1]? = some (.cells #[.int .i64 0, .int .i64 1, .int .i64 0] 39 (0, 0)) := by rw [hW1, ← sa]; exact heap_alloc_new _ _
  have XR0 := Lib.hid (carry xa b1)
  have XQ0 := Lib.hid xq
  have B0 := Lib.hid (ba.trans (b1.mono ba.size))
  clear sa ba b1 xa xq hT1 hT2 hS1 hS2 ht2 hb2 hS1s hQ hcf hml hhl hll hpl hm hh hc1 hpl0 hb hl hs hR hyw hv hbb
  by_cases hy0 : yw = 0
  · subst hy0
    by_cases hfit : R < 18446744073709551616
    · obtain ⟨hvR, hbt⟩ := hvf hfit
      subst hbt
      by_cases h2 : v < 2
      · have WHY := NOCT.out (.inl (by omega))
        have h2i : (v : Int) < 2 := by omega
        clear hvf hvn hpk hRy hfit hvR
        go_enter Tryz.func30, Tryz.ntmps30
        go_wp2_with fail
        rw [← hWa, ← hW1]
        clear hWa hW1
        refine (CT0.out _).mono ?_; rintro e W2 ⟨rfl, b2⟩
        have B2 := Lib.hid (B0.out.trans (b2.mono B0.out.size))
        have XR2 := Lib.hid (carry XR0.out b2)
        have XQ2 := Lib.hid (carry XQ0.out b2)
        clear b2
        go_wp2_with fail
        refine (NP.out _).mono ?_; rintro e W3 ⟨a3, c3, rfl, f3, b3⟩
        have UI := Lib.hid (UC.out W3 a3 c3 f3.rd)
        have B3 := Lib.hid (B2.out.trans (b3.mono B2.out.size))
        have XR3 := Lib.hid (carry XR2.out b3)
        have XQ3 := Lib.hid (carry XQ2.out b3)
        clear f3 b3
        go_wp2_with fail
        refine UI.out.mono ?_; rintro e W4 ⟨rfl, rfl⟩
        have HE := Lib.hid (RBAD.out WHY)
        obtain ⟨z0, z1, z2, _⟩ := at_blockQ XR3.out
        have HBX := Lib.hid B3.out
        go_wp2_with fail
        refine bodyPost_ret (v := .tuple #[.agg #[.int .i64 0, .int .i64 0, .int .i64 0], .int .i64 83]) (by simp [results, Tryz.results30, go_sem, z0, z1, z2]) rfl ?_
        first
          | exact ⟨HE.out, below3 HBX.out (Nat.le_refl _) _ _ _⟩
          | exact ⟨HE.out, HBX.out⟩
      · by_cases h100 : 100 < v
        · have WHY := NOCT.out (.inr (by omega))
          have h2i : ¬ (v : Int) < 2 := by omega
          have h100i : (100 : Int) < (v : Int) := by omega
          clear hvf hvn hpk hRy hfit hvR
          go_enter Tryz.func30, Tryz.ntmps30
          go_wp2_with fail
          rw [← hWa, ← hW1]
          clear hWa hW1
          refine (CT0.out _).mono ?_; rintro e W2 ⟨rfl, b2⟩
          have B2 := Lib.hid (B0.out.trans (b2.mono B0.out.size))
          have XR2 := Lib.hid (carry XR0.out b2)
          have XQ2 := Lib.hid (carry XQ0.out b2)
          clear b2
          go_wp2_with fail
          refine (NP.out _).mono ?_; rintro e W3 ⟨a3, c3, rfl, f3, b3⟩
          have UI := Lib.hid (UC.out W3 a3 c3 f3.rd)
          have B3 := Lib.hid (B2.out.trans (b3.mono B2.out.size))
          have XR3 := Lib.hid (carry XR2.out b3)
          have XQ3 := Lib.hid (carry XQ2.out b3)
          clear f3 b3
          go_wp2_with fail
          refine UI.out.mono ?_; rintro e W4 ⟨rfl, rfl⟩
          have HE := Lib.hid (RBAD.out WHY)
          obtain ⟨z0, z1, z2, _⟩ := at_blockQ XR3.out
          have HBX := Lib.hid B3.out
          go_wp2_with fail
          refine bodyPost_ret (v := .tuple #[.agg #[.int .i64 0, .int .i64 0, .int .i64 0], .int .i64 83]) (by simp [results, Tryz.results30, go_sem, z0, z1, z2]) rfl ?_
          first
            | exact ⟨HE.out, below3 HBX.out (Nat.le_refl _) _ _ _⟩
            | exact ⟨HE.out, HBX.out⟩
        · obtain ⟨c, hc⟩ : ∃ c, c = v := ⟨_, rfl⟩
          have CCC : Hid (pC l = c) := by unfold Hid; rw [hpk (by omega), hc, hvR]
          subst hc
          have hcb : c ≤ 100 := by omega
          have h2i : ¬ (c : Int) < 2 := by omega
          have h100i : ¬ (100 : Int) < (c : Int) := by omega
          have hcw : IntKind.i64.wrap (c : Int) = (c : Int) := IntWalk.i64_in _ (by omega)
          clear hvf hvn hpk hRy hfit hvR h2 h100
          go_enter Tryz.func30, Tryz.ntmps30
          go_wp2_with fail
          rw [← hWa, ← hW1]
          clear hWa hW1
          refine (CT0.out _).mono ?_; rintro e W2 ⟨rfl, b2⟩
          have B2 := Lib.hid (B0.out.trans (b2.mono B0.out.size))
          have XR2 := Lib.hid (carry XR0.out b2)
          have XQ2 := Lib.hid (carry XQ0.out b2)
          clear b2
          go_wp2_with fail
          refine (NP.out _).mono ?_; rintro e W3 ⟨a3, c3, rfl, f3, b3⟩
          have UI := Lib.hid (UC.out W3 a3 c3 f3.rd)
          have B3 := Lib.hid (B2.out.trans (b3.mono B2.out.size))
          have XR3 := Lib.hid (carry XR2.out b3)
          have XQ3 := Lib.hid (carry XQ2.out b3)
          clear f3 b3
          go_wp2_with fail
          refine UI.out.mono ?_; rintro e W4 ⟨rfl, rfl⟩
          obtain ⟨W5, hW5⟩ : ∃ W, W = W3.setCell ⟨w.heap.size + 1, 1, none⟩ (.int .i64 (c : Int)) := ⟨_, rfl⟩
          have B5 : Hid (Below w.heap.size w W5) := by unfold Hid; rw [hW5]; exact Below.setCell (p := ⟨w.heap.size + 1, 1, none⟩) B3.out (Nat.le_succ _) _
          have XR5 : Hid (W5.heap[w.heap.size]? = some (.cells #[.int .i64 0, .int .i64 0, .int .i64 0] 39 (0, 0))) := by
            unfold Hid
            rw [hW5]
            have := XR3.out
            simp [World.setCell, Array.getElem?_modify, this]
          have XQ5 : Hid (W5.heap[w.heap.size + 1]? = some (.cells #[.int .i64 0, .int .i64 (c : Int), .int .i64 0] 39 (0, 0))) := by
            unfold Hid
            rw [hW5]
            have := XQ3.out
            simp [World.setCell, Array.getElem?_modify, this]
          obtain ⟨q0, q1, q2, q3, q4, q5⟩ := at_blockQ XQ3.out
          go_upto_region 10 with fail
          rw [← hW5]
          clear hW5 q0 q1 q2 q3 q4 q5
          go_wp2_with fail
          refine (CT.out _).mono ?_; rintro e W6 ⟨rfl, b6⟩
          have B6 := Lib.hid (B5.out.trans (b6.mono B5.out.size))
          have XR6 := Lib.hid (carry XR5.out b6)
          have XQ6 := Lib.hid (carry XQ5.out b6)
          clear b6
          go_wp2_with fail
          refine (PA.out _).mono ?_; rintro e W7 ⟨s2, a2, n2, c2, o2, m2, d2, er, rfl, cq2, hcc, b7⟩
          have n8 := below_new W7 (.cells #[.bool s2, .slice a2 n2 c2, .slice o2 m2 d2] 25)
          have x8 := heap_alloc_new W7 (.cells #[.bool s2, .slice a2 n2 c2, .slice o2 m2 d2] 25)
          have B8 := (B6.out.trans (b7.mono B6.out.size)).trans (n8.mono (Nat.le_trans B6.out.size b7.size))
          have XR8 := carry (carry XR6.out b7) n8
          have XQ8 := carry (carry XQ6.out b7) n8
          have cq8 := (cq2.below n8).rq
          obtain ⟨W8, hW8⟩ : ∃ W, W = W7.alloc (.cells #[.bool s2, .slice a2 n2 c2, .slice o2 m2 d2] 25) := ⟨_, rfl⟩
          obtain ⟨gx, hgx⟩ : ∃ g, g = W7.heap.size := ⟨_, rfl⟩
          rw [← hW8] at x8 B8 XR8 XQ8 cq8
          rw [← hgx] at x8
          have X8 := Lib.hid x8
          have HB8 := Lib.hid B8
          have HR8 := Lib.hid XR8
          have HQ8 := Lib.hid XQ8
          have HC8 := Lib.hid cq8
          clear b7 n8 x8 B8 XR8 XQ8 cq2 cq8
          obtain ⟨e0, e1, e2, _⟩ := at_blockQ X8.out
          go_upto_region 12 with fail
          rw [← hW8, ← hgx]
          clear hW8 hgx
          cases hb2 : b2 with
          | false =>
            subst hb2
            have WHY := NOSP.out rfl
            have HE := Lib.hid (RBAD.out WHY)
            obtain ⟨z0, z1, z2, _⟩ := at_blockQ HR8.out
            have HBX := Lib.hid HB8.out
            go_wp2_with fail
            refine bodyPost_ret (v := .tuple #[.agg #[.int .i64 0, .int .i64 0, .int .i64 0], .int .i64 83]) (by simp [results, Tryz.results30, go_sem, z0, z1, z2]) rfl ?_
            first
              | exact ⟨HE.out, below3 HBX.out (Nat.le_refl _) _ _ _⟩
              | exact ⟨HE.out, HBX.out⟩
          | true =>
            subst hb2
            rcases hcc with ⟨hc1, rfl⟩ | ⟨_, rfl⟩
            · have WHY := NOFORM.out hc1
              have HE := Lib.hid (RBAD.out WHY)
              obtain ⟨z0, z1, z2, _⟩ := at_blockQ HR8.out
              have HBX := Lib.hid HB8.out
              go_wp2_with fail
              refine bodyPost_ret (v := .tuple #[.agg #[.int .i64 0, .int .i64 0, .int .i64 0], .int .i64 83]) (by simp [results, Tryz.results30, go_sem, z0, z1, z2]) rfl ?_
              first
                | exact ⟨HE.out, below3 HBX.out (Nat.le_refl _) _ _ _⟩
                | exact ⟨HE.out, HBX.out⟩
            · have SG := Lib.hid (rSign_q s2 a2 o2 n2 c2 m2 d2 512 Q W8 HC8.out)
              obtain ⟨sg, hsg⟩ : ∃ x, x = sgn Q := ⟨_, rfl⟩
              unfold Hid at SG
              rw [← hsg] at SG
              have SG := Lib.hid SG
              by_cases hpos : sg ≤ 0
              · have WHY := NOPOS.out (by rw [← hsg]; exact hpos)
                have hposb : decide (sg ≤ 0) = true := decide_eq_true hpos
                clear hsg
                go_wp2_with fail
                refine SG.out.mono ?_; rintro e W9 ⟨rfl, b9⟩
                have B9 := Lib.hid (HB8.out.trans (b9.mono HB8.out.size))
                have XR9 := Lib.hid (carry HR8.out b9)
                clear b9 e0 e1 e2
                have HE := Lib.hid (RBAD.out WHY)
                obtain ⟨z0, z1, z2, _⟩ := at_blockQ XR9.out
                have HBX := Lib.hid B9.out
                go_wp2_with fail
                refine bodyPost_ret (v := .tuple #[.agg #[.int .i64 0, .int .i64 0, .int .i64 0], .int .i64 83]) (by simp [results, Tryz.results30, go_sem, z0, z1, z2]) rfl ?_
                first
                  | exact ⟨HE.out, below3 HBX.out (Nat.le_refl _) _ _ _⟩
                  | exact ⟨HE.out, HBX.out⟩
              · have hposb : decide (sg ≤ 0) = false := decide_eq_false hpos
                have POS : Hid (0 < sgn Q) := by unfold Hid; rw [← hsg]; omega
                clear hsg
                go_wp2_with fail
                refine SG.out.mono ?_; rintro e W9 ⟨rfl, b9⟩
                have B9 := Lib.hid (HB8.out.trans (b9.mono HB8.out.size))
                have XR9 := Lib.hid (carry HR8.out b9)
                have XQ9 := Lib.hid (carry HQ8.out b9)
                have X9 := Lib.hid (carry X8.out b9)
                have C9 := Lib.hid (HC8.out.below b9)
                clear b9 e0 e1 e2
                go_wp2_with fail
                refine (runits_v _).mono ?_; rintro e W10 ⟨g, rfl, hrow, b10⟩
                have B10 := Lib.hid (B9.out.trans (b10.mono B9.out.size))
                have XR10 := Lib.hid (carry XR9.out b10)
                have XQ10 := Lib.hid (carry XQ9.out b10)
                have KX : Hid (∀ w', Below W10.heap.size W10 w' → w'.cell? ⟨gx, 0, none⟩ = some (.bool s2) ∧ w'.cell? ⟨gx, 1, none⟩ = some (.slice a2 n2 c2) ∧ w'.cell? ⟨gx, 2, none⟩ = some (.slice o2 m2 d2)) := fun w' hb => by
                  obtain ⟨e0, e1, e2, _⟩ := at_blockQ (carry (carry X9.out b10) hb)
                  exact ⟨e0, e1, e2⟩
                have KQ : Hid (∀ w', Below W10.heap.size W10 w' → RQ w' s2 a2 n2 c2 o2 m2 d2 Q 512) := fun w' hb => (C9.out.below b10).below hb
                have R10 := Lib.hid hrow
                clear hrow b10
                go_wp2_with fail
                go_loopw [84] (fun s84 wr => ∃ i : Nat, i ≤ 10 ∧ s84 = .int .i64 (i : Int) ∧ Hid (∀ j : Nat, j < i → (rU.getD j Un.nil).name ≠ t2) ∧ Hid (Below W10.heap.size W10 wr)) (fun s84 _ => 10 - (intOf s84).toNat)
                case atStart => exact ⟨0, by omega, rfl, fun j hj => absurd hj (Nat.not_lt_zero _), Below.refl _ _⟩
                case round =>
                  obtain ⟨i, hi, rfl, hno, hwr⟩ := hrel
                  have BW := Lib.hid (B10.out.trans (hwr.out.mono B10.out.size))
                  by_cases hlt : i < 10
                  · have hlt2 : (i : Int) < 10 := by omega
                    obtain ⟨u, hu⟩ : ∃ u, u = rU.getD i Un.nil := ⟨_, rfl⟩
                    have hmem : u ∈ cU := by rw [hu]; exact rU_mem hlt
                    obtain ⟨c0, c1, c2'⟩ := RRow.at (R10.out.below hwr.out) hlt
                    rw [← hu] at c0 c1 c2'
                    obtain ⟨hz1, hz2, hd1, hd4, _, hzz⟩ := un_size hmem
                    obtain ⟨N, hN⟩ : ∃ N, N = txtB u.name := ⟨_, rfl⟩
                    obtain ⟨dm, hdm⟩ : ∃ x, x = u.dim := ⟨_, rfl⟩
                    obtain ⟨z, hz⟩ : ∃ z : Nat, z = u.size.toNat := ⟨_, rfl⟩
                    rw [← hz] at hzz
                    have hnm : (N.toList == S2.toList) = (u.name == t2) := by rw [hN, ByteArray.toList_eq, ByteArray.toList_eq, txtB_list, HS2.out]
                    have HITU : Hid (u.name = t2 → pU l = u) := fun h => by
                      rw [HPU.out, hu]
                      exact named_hit hlt (by rw [← hu]; exact h)
                    have MISSU : Hid (u.name ≠ t2 → ∀ j : Nat, j < i + 1 → (rU.getD j Un.nil).name ≠ t2) := fun h j hj => by
                      rcases Nat.lt_or_ge j i with k | k
                      · exact hno.out j k
                      · obtain rfl : j = i := by omega
                        rw [← hu]; exact h
                    rw [← hN] at c1
                    rw [← hdm] at c0 hd1 hd4
                    rw [← hzz] at c2' hz1 hz2
                    have nu := below_new wr (.cells #[.int .i64 dm, .string N, .int .i64 (z : Int)] 91)
                    have yu := heap_alloc_new wr (.cells #[.int .i64 dm, .string N, .int .i64 (z : Int)] 91)
                    obtain ⟨WU, hWU⟩ : ∃ W, W = wr.alloc (.cells #[.int .i64 dm, .string N, .int .i64 (z : Int)] 91) := ⟨_, rfl⟩
                    obtain ⟨gu, hgu⟩ : ∃ g, g = wr.heap.size := ⟨_, rfl⟩
                    rw [← hWU] at nu yu
                    rw [← hgu] at yu
                    have YU := Lib.hid yu
                    have BU : Hid (Below W10.heap.size W10 WU) := hwr.out.trans (nu.mono hwr.out.size)
                    obtain ⟨u0, u1, u2, _⟩ := at_blockQ yu
                    clear nu yu
                    by_cases hname : u.name = t2
                    · have hnt : (N.toList == S2.toList) = true := by rw [hnm, hname]; exact beq_self_eq_true _
                      have hpu := HITU.out hname
                      obtain ⟨A, hA⟩ : ∃ A, A = pA l := ⟨_, rfl⟩
                      have AN : Hid (A = amtN (Q * rq false z 1)) := by unfold Hid; rw [hA, PAQ.out, hpu, hz]
                      have ES : Hid (pE l = qwhy dm (c : Int) (A : Int)) := by unfold Hid; rw [hA, hdm, ← hpu]; unfold pE; rw [CCC.out]
                      have RS0 : Hid (rs (Q * rq false z 1) = false) := RPOS.out POS.out z
                      have ROKU : Hid (pE l = 0 → Ending.returned (.tuple #[.agg #[.int .i64 dm, .int .i64 (c : Int), .int .i64 (A : Int)], .int .i64 0]) = .returned (.tuple #[.agg #[.int .i64 (rD l), .int .i64 (rC l), .int .i64 (rA l)], .int .i64 (rE l)])) := fun k => by
                        obtain ⟨e1, e2, e3, e4⟩ := r_ok (l := l) k
                        exact ret_q (by rw [e2, hdm, hpu]) (by rw [e3, CCC.out]) (by rw [e4, hA]) e1.symm
                      have NOAM : Hid (A = 0 → pE l ≠ 0) := fun k => bad_amount (by rw [← hA]; exact k)
                      have hzb : z ≤ 1099511627776 := by omega
                      clear HITU MISSU hmem hu hN hdm hz hnm hname hpu hA hno hzz
                      go_upto_region 17 with fail
                      rw [← hWU, ← hgu]
                      clear hWU hgu c0 c1 c2'
                      go_upto_region 18 with fail
                      go_cut [19] from 20 to 129 (fun v19 wx => NumCut WU (Q * rq false z 1) 1025 v19 wx)
                      case first =>
                        refine wp_region_any (by kernel_rfl) ?_
                        refine region_ssa [92, 93, 94, 95, 96, 19] (Below WU.heap.size WU) (ExtT 25 WU.heap.size) (OneR 25 WU.heap.size [.val (.agg #[.bool s2, .slice a2 n2 c2, .slice o2 m2 d2]), .val (.pointer (some ⟨gu, 2, none⟩)), .val (.int .i64 (z : Int)), .num (rq false z 1) (2), .num (Q * rq false z 1) (1025), .box, .any]) (OneX 25 6 19 96) (fun f => rfl) (by kernel_rfl) (by kernel_rfl) ?_ ?_ ?_ ?_ (AllFrom.below (n := 7) ?_) ?_
                        · exact (Below.refl _ _).drew
                        · intro f h; cases h
                        · intro i v w1 w2 _ h hE; exact OneR.ext (by decide) i v w1 w2 h hE
                        · intro w1 w2 hB hE; exact hB.trans hE.1
                        · refine AllFrom.step (m := 6) (j := 1) rfl ?_ ?_
                          · intro D f w1 hD hB hR hp hcl hX
                            obtain ⟨x0, x1, x2⟩ := KX.out w1 (keepB hB BU.out (Nat.le_refl _))
                            obtain ⟨u0, u1, u2, _⟩ := at_blockQ (carry YU.out hB)
                            refine wpOp_step rfl (fun K hK => ?_)
                            simp only [putAll, Act.put, List.setIfInBounds_toArray, List.set_cons_succ, List.set_cons_zero]
                            go_simp
                            exact hK _ _ ⟨(.agg #[.bool s2, .slice a2 n2 c2, .slice o2 m2 d2]), (by show _ = Act.put _ (some 92) _; simp only [putAll, Act.put, List.setIfInBounds_toArray, List.set_cons_succ, List.set_cons_zero, *]), rfl, ExtT.refl _ _ _, fun h => absurd h (no_of (D := D) (hcl 6) (by kernel_rfl) hD)⟩
                          refine AllFrom.step (m := 5) (j := 2) rfl ?_ ?_
                          · intro D f w1 hD hB hR hp hcl hX
                            refine wpOp_step rfl (fun K hK => ?_)
                            simp only [putAll, Act.put, List.setIfInBounds_toArray, List.set_cons_succ, List.set_cons_zero]
                            go_simp
                            exact hK _ _ ⟨(.pointer (some ⟨gu, 2, none⟩)), (by show _ = Act.put _ (some 93) _; simp only [putAll, Act.put, List.setIfInBounds_toArray, List.set_cons_succ, List.set_cons_zero, *]), rfl, ExtT.refl _ _ _, fun h => absurd h (no_of (D := D) (hcl 6) (by kernel_rfl) hD)⟩
                          refine AllFrom.step (m := 4) (j := 3) rfl ?_ ?_
                          · intro D f w1 hD hB hR hp hcl hX
                            have e1 : f 93 = (.pointer (some ⟨gu, 2, none⟩)) := (hp_at hp 1 (by kernel_rfl)).2
                            obtain ⟨x0, x1, x2⟩ := KX.out w1 (keepB hB BU.out (Nat.le_refl _))
                            obtain ⟨u0, u1, u2, _⟩ := at_blockQ (carry YU.out hB)
                            refine wpOp_step rfl (fun K hK => ?_)
                            simp only [putAll, Act.put, List.setIfInBounds_toArray, List.set_cons_succ, List.set_cons_zero]
                            go_simp
                            exact hK _ _ ⟨(.int .i64 (z : Int)), (by show _ = Act.put _ (some 94) _; simp only [putAll, Act.put, List.setIfInBounds_toArray, List.set_cons_succ, List.set_cons_zero, *]), rfl, ExtT.refl _ _ _, fun h => absurd h (no_of (D := D) (hcl 6) (by kernel_rfl) hD)⟩
                          refine AllFrom.step (m := 3) (j := 4) rfl ?_ ?_
                          · intro D f w1 hD hB hR hp hcl hX
                            have e2 : f 94 = (.int .i64 (z : Int)) := (hp_at hp 2 (by kernel_rfl)).2
                            refine wpOp_step rfl (fun K hK => ?_)
                            simp only [putAll, Act.put, List.setIfInBounds_toArray, List.set_cons_succ, List.set_cons_zero]
                            go_simp
                            refine (rFromInt_nat z hzb _ rfl _).mono ?_
                            rintro e w2 hm
                            obtain ⟨v, rfl, hq, hb⟩ := hm.isq
                            go_simp
                            exact hK _ _ ⟨v, (by show _ = Act.put _ (some 95) _; simp only [putAll, Act.put, List.setIfInBounds_toArray, List.set_cons_succ, List.set_cons_zero, *]), hq, ExtT.of_below hb hB.size, fun h => absurd h (no_of (D := D) (hcl 6) (by kernel_rfl) hD)⟩
                          refine AllFrom.step (m := 2) (j := 5) rfl ?_ ?_
                          · intro D f w1 hD hB hR hp hcl hX
                            have e0 : f 92 = (.agg #[.bool s2, .slice a2 n2 c2, .slice o2 m2 d2]) := (hp_at hp 0 (by kernel_rfl)).2
                            obtain ⟨s3, a3, n3, c3, o3, m3, d3, e3, q3⟩ := (hp_at hp 3 (by kernel_rfl)).2
                            replace e3 : f 95 = _ := e3
                            have cq1 := KQ.out w1 (keepB hB BU.out (Nat.le_refl _))
                            refine wpOp_step rfl (fun K hK => ?_)
                            simp only [putAll, Act.put, List.setIfInBounds_toArray, List.set_cons_succ, List.set_cons_zero]
                            go_simp
                            refine (rMul_q s2 s3 a2 o2 a3 o3 n2 c2 m2 d2 n3 c3 m3 d3 512 Q (rq false z 1) _ cq1 (RQ.up q3.rq (by omega) (by omega)) (by omega)).mono ?_
                            rintro e w2 hm
                            obtain ⟨v, rfl, hq, hb⟩ := hm.isq
                            go_simp
                            exact hK _ _ ⟨v, (by show _ = Act.put _ (some 96) _; simp only [putAll, Act.put, List.setIfInBounds_toArray, List.set_cons_succ, List.set_cons_zero, *]), hq, ExtT.of_below hb hB.size, fun h => absurd h (no_of (D := D) (hcl 6) (by kernel_rfl) hD)⟩
                          refine AllFrom.step (m := 1) (j := 6) rfl ?_ ?_
                          · intro D f w1 hD hB hR hp hcl hX
                            refine wpOp_step rfl (fun K hK => ?_)
                            simp only [putAll, Act.put, List.setIfInBounds_toArray, List.set_cons_succ, List.set_cons_zero]
                            go_simp
                            exact hK _ _ ⟨.pointer (some ⟨w1.heap.size, 0, none⟩), (by show _ = Act.put _ (some 19) _; simp only [putAll, Act.put, List.setIfInBounds_toArray, List.set_cons_succ, List.set_cons_zero, *]), ⟨w1.heap.size, rfl, hB.size, newBT _ _ _ _ _⟩, ExtT.of_below (below_new _ _) hB.size, fun h => absurd h (no_of (D := D) (hcl 6) (by kernel_rfl) hD)⟩
                          refine AllFrom.step (m := 0) (j := 7) rfl ?_ ?_
                          · intro D f w1 hD hB hR hp hcl hX
                            obtain ⟨g, eg, hg, hb⟩ := (hp_at hp 5 (by kernel_rfl)).2
                            obtain ⟨s5, a5, n5, c5, o5, m5, d5, ev, hcq⟩ := (hp_at hp 4 (by kernel_rfl)).2
                            replace ev : f 96 = _ := ev
                            replace eg : f 19 = _ := eg
                            obtain ⟨u0, u1, u2, q0, q1, q2, z0, z1, z2⟩ := hb.facts
                            refine wpOp_step rfl (fun K hK => ?_)
                            simp only [putAll, Act.put, List.setIfInBounds_toArray, List.set_cons_succ, List.set_cons_zero]
                            go_simp
                            exact hK _ _ ⟨undef, (by show _ = Act.put _ (none) _; simp only [putAll, Act.put, List.setIfInBounds_toArray, List.set_cons_succ, List.set_cons_zero, *]), trivial, ExtT.set3 hb hg _ _ _, fun _ => by show HoldsT _ _ (f 19) (f 96); rw [eg, ev]; exact HoldsT.new hb _ _ _⟩
                          exact AllFrom.nil
                        · intro D f w1 hall hB hR hX
                          simp only [putAll, Act.put, List.setIfInBounds_toArray, List.set_cons_succ, List.set_cons_zero]
                          go_wp2_with fail
                          go_meet
                          exact num_cut hB (hX (hall 6 (by decide))) (hR 4 (by decide))
                      case rest =>
                        obtain ⟨g5, s5, a5, n5, c5, o5, m5, d5, rfl, x5, cq5, b5⟩ := hcut
                        obtain ⟨y, hy⟩ : ∃ y, y = Q * rq false z 1 := ⟨_, rfl⟩
                        unfold Hid at AN RS0
                        rw [← hy] at cq5 AN RS0
                        have smy : Sm (rn y) 1025 := cq5.2.2.2.2.2.1
                        obtain ⟨hs5, hn5, hm5, fn5, fd5, _, _⟩ := cq5
                        obtain ⟨v, hv⟩ : ∃ v : Nat, v = fitv (rn y) := ⟨_, rfl⟩
                        obtain ⟨b, hbf⟩ : ∃ b, b = fits (rn y) := ⟨_, rfl⟩
                        have UI : Hid (Calls Tryz.prog 80 #[.slice a5 n5 c5] wc fun e w'' => e = .returned (.tuple #[.int .u64 (v : Int), .bool b]) ∧ wc = w'') := by
                          have := rUint_any a5 c5 (dig (rn y)) wc fn5.rd (Nat.le_trans smy.len (by omega))
                          unfold Hid
                          rw [hn5]
                          rwa [val_dig, ← hv, ← hbf] at this
                        have hm0 : y.den = 1 → m5 = 0 := fun h => by rw [hm5, h]; rfl
                        have hm1 : y.den ≠ 1 → 0 < m5 := fun h => by
                          rw [hm5, dd_of h]
                          refine List.length_pos_iff.2 (fun e => ?_)
                          have h2 : val (dig y.den) = y.den := val_dig _
                          rw [e] at h2
                          have h3 := den_pos y
                          have h4 : val [] = 0 := rfl
                          omega
                        have A0 : (y.den ≠ 1 ∨ 1099511627776 < rn y) → A = 0 := fun h => by
                          rw [AN]
                          refine if_neg (fun k => ?_)
                          obtain ⟨_, k2, k3⟩ := k
                          rcases h with h | h
                          · exact h k2
                          · omega
                        have A1 : y.den = 1 → rn y ≤ 1099511627776 → A = rn y := fun h2 h3 => by
                          rw [AN]
                          exact if_pos ⟨RS0, h2, h3⟩
                        have hfy : rn y < 18446744073709551616 → v = rn y ∧ b = true := fun h => by
                          have := fitv_yes h
                          exact ⟨by omega, by rw [hbf]; exact fits_yes h⟩
                        have hfn : ¬ rn y < 18446744073709551616 → v = 0 ∧ b = false := fun h => by
                          have := fitv_no h
                          exact ⟨by omega, by rw [hbf]; exact fits_no h⟩
                        have BX : Hid (Below W10.heap.size W10 wc) := BU.out.trans (b5.mono BU.out.size)
                        have BZ := Lib.hid (B10.out.trans (BX.out.mono B10.out.size))
                        have XRc := Lib.hid (carry XR10.out BX.out)
                        have XQc := Lib.hid (carry XQ10.out BX.out)
                        have YUc := Lib.hid (carry YU.out b5)
                        obtain ⟨k0, k1, k2, _⟩ := at_blockQ x5
                        clear x5 fn5 fd5 b5 hs5 hn5 hm5 AN RS0 hv hbf hy u0 u1 u2
                        by_cases hd1' : y.den = 1
                        · obtain rfl : m5 = 0 := hm0 hd1'
                          by_cases hfit : rn y < 18446744073709551616
                          · obtain ⟨hvy, rfl⟩ := hfy hfit
                            by_cases hbig : 1099511627776 < v
                            · have WHY := NOAM.out (A0 (.inr (by omega)))
                              have hbi : (1099511627776 : Int) < (v : Int) := by omega
                              clear A0 A1 hm0 hm1 hd1' hfy hfn hfit hvy
                              go_wp2_with fail
                              refine UI.out.mono ?_; rintro e w6 ⟨rfl, rfl⟩
                              have HE := Lib.hid (RBAD.out WHY)
                              obtain ⟨z0, z1, z2, _⟩ := at_blockQ XRc.out
                              have HBX := Lib.hid BZ.out
                              go_wp2_with fail
                              refine bodyPost_ret (v := .tuple #[.agg #[.int .i64 0, .int .i64 0, .int .i64 0], .int .i64 83]) (by simp [results, Tryz.results30, go_sem, z0, z1, z2]) rfl ?_
                              first
                                | exact ⟨HE.out, below3 HBX.out (Nat.le_refl _) _ _ _⟩
                                | exact ⟨HE.out, HBX.out⟩
                            · have hAv : A = v := by rw [hvy]; exact A1 hd1' (by omega)
                              have hbi : ¬ (1099511627776 : Int) < (v : Int) := by omega
                              have hwr' : IntKind.i64.wrap (v : Int) = (v : Int) := IntWalk.i64_in _ (by omega)
                              have HBI := Lib.hid hbig
                              subst hAv
                              obtain ⟨W11, hW11⟩ : ∃ W, W = (wc.setCell ⟨w.heap.size + 1, 0, none⟩ (.int .i64 dm)).setCell ⟨w.heap.size + 1, 2, none⟩ (.int .i64 (A : Int)) := ⟨_, rfl⟩
                              have B11 : Hid (Below w.heap.size w W11) := by rw [hW11]; exact Below.setCell (p := ⟨w.heap.size + 1, 2, none⟩) (Below.setCell (p := ⟨w.heap.size + 1, 0, none⟩) BZ.out (Nat.le_succ _) _) (Nat.le_succ _) _
                              have XR11 : Hid (W11.heap[w.heap.size]? = some (.cells #[.int .i64 0, .int .i64 0, .int .i64 0] 39 (0, 0))) := by
                                unfold Hid
                                rw [hW11]
                                have := XRc.out
                                simp [World.setCell, Array.getElem?_modify, this]
                              have XQ11 : Hid (W11.heap[w.heap.size + 1]? = some (.cells #[.int .i64 dm, .int .i64 (c : Int), .int .i64 (A : Int)] 39 (0, 0))) := by
                                unfold Hid
                                rw [hW11]
                                have := XQc.out
                                simp [World.setCell, Array.getElem?_modify, this]
                              obtain ⟨u0, u1, u2, _⟩ := at_blockQ YUc.out
                              obtain ⟨q0, q1, q2, q3, q4, q5⟩ := at_blockQ XQc.out
                              have VAL : Hid (Calls Tryz.prog 28 #[.agg #[.int .i64 dm, .int .i64 (c : Int), .int .i64 (A : Int)]] W11 fun e w2 => e = .returned (.int .i64 (pE l)) ∧ Below W11.heap.size W11 w2) := by
                                rw [ES.out]
                                exact rValidate_q dm (c : Int) (A : Int) ⟨by omega, by omega, by omega, by omega, by omega, by omega⟩ W11
                              obtain ⟨E, hE⟩ : ∃ E, E = pE l := ⟨_, rfl⟩
                              unfold Hid at VAL ROKU
                              rw [← hE] at VAL ROKU
                              have VAL := Lib.hid VAL
                              have ROKU := Lib.hid ROKU
                              have HEE := Lib.hid hE
                              clear A0 A1 hm0 hm1 hd1' hfy hfn hfit hvy hE ES NOAM hbig
                              go_wp2_with fail
                              refine UI.out.mono ?_; rintro e w6 ⟨rfl, rfl⟩
                              go_upto_region 24 with fail
                              rw [← hW11]
                              clear hW11 u0 u1 u2 q0 q1 q2 q3 q4 q5 k0 k1 k2
                              obtain ⟨q0, q1, q2, _⟩ := at_blockQ XQ11.out
                              go_wp2_with fail
                              refine VAL.out.mono ?_; rintro e w12 ⟨rfl, b12⟩
                              have B12 := Lib.hid (B11.out.trans (b12.mono B11.out.size))
                              have XR12 := Lib.hid (carry XR11.out b12)
                              have XQ12 := Lib.hid (carry XQ11.out b12)
                              clear b12 q0 q1 q2
                              obtain ⟨q0, q1, q2, _⟩ := at_blockQ XQ12.out
                              by_cases hE0 : E = 0
                              · have hEb : (E != 0) = false := by rw [hE0]; rfl
                                have HRK := Lib.hid (ROKU.out hE0)
                                obtain ⟨z0, z1, z2, _⟩ := at_blockQ XR12.out
                                clear hE0
                                go_wp2_with fail
                                refine bodyPost_ret (v := .tuple #[.agg #[.int .i64 dm, .int .i64 (c : Int), .int .i64 (A : Int)], .int .i64 0]) (by simp [results, Tryz.results30, go_sem, z0, z1, z2]) rfl ?_
                                exact ⟨HRK.out, below3 B12.out (Nat.le_refl _) _ _ _⟩
                              · have hEb : (E != 0) = true := by simp [hE0]
                                have WHY : pE l ≠ 0 := by rw [← HEE.out]; exact hE0
                                clear hE0
                                have HE := Lib.hid (RBAD.out WHY)
                                obtain ⟨z0, z1, z2, _⟩ := at_blockQ XR12.out
                                have HBX := Lib.hid B12.out
                                go_wp2_with fail
                                refine bodyPost_ret (v := .tuple #[.agg #[.int .i64 0, .int .i64 0, .int .i64 0], .int .i64 83]) (by simp [results, Tryz.results30, go_sem, z0, z1, z2]) rfl ?_
                                first
                                  | exact ⟨HE.out, below3 HBX.out (Nat.le_refl _) _ _ _⟩
                                  | exact ⟨HE.out, HBX.out⟩
                          · obtain ⟨hvy, rfl⟩ := hfn hfit
                            have WHY := NOAM.out (A0 (.inr (by omega)))
                            clear A0 A1 hm0 hm1 hd1' hfy hfn hfit hvy
                            go_wp2_with fail
                            refine UI.out.mono ?_; rintro e w6 ⟨rfl, rfl⟩
                            have HE := Lib.hid (RBAD.out WHY)
                            obtain ⟨z0, z1, z2, _⟩ := at_blockQ XRc.out
                            have HBX := Lib.hid BZ.out
                            go_wp2_with fail
                            refine bodyPost_ret (v := .tuple #[.agg #[.int .i64 0, .int .i64 0, .int .i64 0], .int .i64 83]) (by simp [results, Tryz.results30, go_sem, z0, z1, z2]) rfl ?_
                            first
                              | exact ⟨HE.out, below3 HBX.out (Nat.le_refl _) _ _ _⟩
                              | exact ⟨HE.out, HBX.out⟩
                        · have hmp : 0 < m5 := hm1 hd1'
                          have hmpi : (0 : Int) < (m5 : Int) := by omega
                          have WHY := NOAM.out (A0 (.inl hd1'))
                          clear A0 A1 hm0 hm1 hd1' hfy hfn
                          go_wp2_with fail
                          refine UI.out.mono ?_; rintro e w6 ⟨rfl, rfl⟩
                          have HE := Lib.hid (RBAD.out WHY)
                          obtain ⟨z0, z1, z2, _⟩ := at_blockQ XRc.out
                          have HBX := Lib.hid BZ.out
                          go_wp2_with fail
                          refine bodyPost_ret (v := .tuple #[.agg #[.int .i64 0, .int .i64 0, .int .i64 0], .int .i64 83]) (by simp [results, Tryz.results30, go_sem, z0, z1, z2]) rfl ?_
                          first
                            | exact ⟨HE.out, below3 HBX.out (Nat.le_refl _) _ _ _⟩
                            | exact ⟨HE.out, HBX.out⟩
                    · have hnt : (N.toList == S2.toList) = false := by rw [hnm]; exact beq_eq_false_iff_ne.2 hname
                      have HM := Lib.hid (MISSU.out hname)
                      clear HITU MISSU hmem hu hN hdm hz hnm hname hno hzz
                      go_upto_region 17 with fail
                      rw [← hWU, ← hgu]
                      clear hWU hgu c0 c1 c2'
                      go_wp2_with fail
                      go_roundw
                      case rel => exact ⟨i + 1, by omega, by go_num, HM, BU⟩
                      case measure => simp [intOf]; omega
                  · obtain rfl : i = 10 := by omega
                    have WHY := NONM.out hno.out
                    have XRw := Lib.hid (carry XR10.out hwr.out)
                    have HE := Lib.hid (RBAD.out WHY)
                    obtain ⟨z0, z1, z2, _⟩ := at_blockQ XRw.out
                    have HBX := Lib.hid BW.out
                    go_wp2_with fail
                    refine bodyPost_ret (v := .tuple #[.agg #[.int .i64 0, .int .i64 0, .int .i64 0], .int .i64 83]) (by simp [results, Tryz.results30, go_sem, z0, z1, z2]) rfl ?_
                    first
                      | exact ⟨HE.out, below3 HBX.out (Nat.le_refl _) _ _ _⟩
                      | exact ⟨HE.out, HBX.out⟩
    · obtain ⟨hv0, hbt⟩ := hvn hfit
      subst hbt
      have WHY := NOCT.out (.inr (by omega))
      clear hvf hvn hpk hRy hfit hv0
      go_enter Tryz.func30, Tryz.ntmps30
      go_wp2_with fail
      rw [← hWa, ← hW1]
      clear hWa hW1
      refine (CT0.out _).mono ?_; rintro e W2 ⟨rfl, b2⟩
      have B2 := Lib.hid (B0.out.trans (b2.mono B0.out.size))
      have XR2 := Lib.hid (carry XR0.out b2)
      have XQ2 := Lib.hid (carry XQ0.out b2)
      clear b2
      go_wp2_with fail
      refine (NP.out _).mono ?_; rintro e W3 ⟨a3, c3, rfl, f3, b3⟩
      have UI := Lib.hid (UC.out W3 a3 c3 f3.rd)
      have B3 := Lib.hid (B2.out.trans (b3.mono B2.out.size))
      have XR3 := Lib.hid (carry XR2.out b3)
      have XQ3 := Lib.hid (carry XQ2.out b3)
      clear f3 b3
      go_wp2_with fail
      refine UI.out.mono ?_; rintro e W4 ⟨rfl, rfl⟩
      have HE := Lib.hid (RBAD.out WHY)
      obtain ⟨z0, z1, z2, _⟩ := at_blockQ XR3.out
      have HBX := Lib.hid B3.out
      go_wp2_with fail
      refine bodyPost_ret (v := .tuple #[.agg #[.int .i64 0, .int .i64 0, .int .i64 0], .int .i64 83]) (by simp [results, Tryz.results30, go_sem, z0, z1, z2]) rfl ?_
      first
        | exact ⟨HE.out, below3 HBX.out (Nat.le_refl _) _ _ _⟩
        | exact ⟨HE.out, HBX.out⟩
  · have hyb : (yw != 0) = true := by simp [hy0]
    have WHY := NOCT.out (.inl (by rw [hRy hy0]; omega))
    clear hvf hvn hpk hRy hy0
    go_enter Tryz.func30, Tryz.ntmps30
    go_wp2_with fail
    rw [← hWa, ← hW1]
    clear hWa hW1
    refine (CT0.out _).mono ?_; rintro e W2 ⟨rfl, b2⟩
    have B2 := Lib.hid (B0.out.trans (b2.mono B0.out.size))
    have XR2 := Lib.hid (carry XR0.out b2)
    have XQ2 := Lib.hid (carry XQ0.out b2)
    clear b2
    go_wp2_with fail
    refine (NP.out _).mono ?_; rintro e W3 ⟨a3, c3, rfl, f3, b3⟩
    have UI := Lib.hid (UC.out W3 a3 c3 f3.rd)
    have B3 := Lib.hid (B2.out.trans (b3.mono B2.out.size))
    have XR3 := Lib.hid (carry XR2.out b3)
    have XQ3 := Lib.hid (carry XQ2.out b3)
    clear f3 b3
    go_wp2_with fail
    refine UI.out.mono ?_; rintro e W4 ⟨rfl, rfl⟩
    have HE := Lib.hid (RBAD.out WHY)
    obtain ⟨z0, z1, z2, _⟩ := at_blockQ XR3.out
    have HBX := Lib.hid B3.out
    go_wp2_with fail
    refine bodyPost_ret (v := .tuple #[.agg #[.int .i64 0, .int .i64 0, .int .i64 0], .int .i64 83]) (by simp [results, Tryz.results30, go_sem, z0, z1, z2]) rfl ?_
    first
      | exact ⟨HE.out, below3 HBX.out (Nat.le_refl _) _ _ _⟩
      | exact ⟨HE.out, HBX.out⟩

theorem rParse_v (s : ByteArray) (w : World) (hs : s.size ≤ 1000) :
    Calls Tryz.prog 30 #[.string s] w fun e w' => e = .returned (.tuple #[.agg #[.int .i64 (rD s.data.toList), .int .i64 (rC s.data.toList), .int .i64 (rA s.data.toList)], .int .i64 (rE s.data.toList)]) ∧ Below w.heap.size w w' := by
  cases hb : (Lib.cut s.data.toList sepX).2.2 with
  | true => exact rParse_many s _ rfl hs hb w
  | false => exact rParse_one s _ rfl hs hb w
end Go.Proofs.YtobiepkhommeaaaGreatDoor
