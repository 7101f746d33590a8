import Derived.Test.YtaefncebebonoaaDoorRat14
import Derived.Deep.CutRange
/- RationalRounds: the walk. -/
namespace Go.Proofs.YtaefncebebonoaaDoor
open Go.RowKit

/-- the law's number, cut, and its rounded one, at a world of the walk -/
structure RndW (w W : World) (g : Nat) (s : Bool) (ao : Option Addr) (n1 ca : Nat) (bo : Option Addr) (m1 cb : Nat) (s5 : Bool) (a5 : Option Addr) (n5 c5 : Nat) (o5 : Option Addr) (m5 d5 : Nat) (A : Rat) : Prop where
  x : W.heap[w.heap.size]? = some (.cells #[.bool s, .slice ao n1 ca, .slice bo m1 cb] 25 (0, 0))
  r : W.heap[g]? = some (.cells #[.bool s5, .slice a5 n5 c5, .slice o5 m5 d5] 25 (0, 0))
  c : CQ 0 W s5 a5 n5 c5 o5 m5 d5 A 312
  b : Below w.heap.size w W
  l : w.heap.size ≤ g
theorem RndW.ext {w W W' : World} {g : Nat} {s : Bool} {ao : Option Addr} {n1 ca : Nat} {bo : Option Addr} {m1 cb : Nat} {s5 : Bool} {a5 : Option Addr} {n5 c5 : Nat} {o5 : Option Addr} {m5 d5 : Nat} {A : Rat} (h : RndW w W g s ao n1 ca bo m1 cb s5 a5 n5 c5 o5 m5 d5 A) (hb : Below W.heap.size W W') : RndW w W' g s ao n1 ca bo m1 cb s5 a5 n5 c5 o5 m5 d5 A :=
  ⟨carry h.x hb, carry h.r hb, h.c.below hb, h.b.trans (hb.mono h.b.size), h.l⟩

set_option maxHeartbeats 20000000 in
set_option maxRecDepth 100000 in
theorem RationalRounds_any (s : Bool) (ao bo : Option Addr) (ca cb : Nat) (xs ys : List Nat) (i : Int) (w : World) (hx : Rd w ao ca xs) (hy : Rd w bo cb ys) (hi0 : -9223372036854775808 ≤ i) (hi1 : i ≤ 9223372036854775807) (htab : Tab w) :
    Calls Tryd.prog 8 #[.agg #[.bool s, .slice ao xs.length ca, .slice bo ys.length cb], .int .i64 i] w fun e w' => e = .returned (.bool true) ∧ Below w.heap.size w w' := by
  obtain ⟨j, hij⟩ : ∃ j : Nat, min (max i 0) 12 = (j : Int) := ⟨(min (max i 0) 12).toNat, by omega⟩
  have hj12 : j ≤ 12 := by omega
  obtain ⟨us, hu⟩ : ∃ us, us = xs.take 12 := ⟨_, rfl⟩
  obtain ⟨vs, hv⟩ : ∃ vs, vs = ys.take 12 := ⟨_, rfl⟩
  have RX := cut_rq (s := s) hx hy hu hv
  obtain ⟨n1, hn1⟩ : ∃ n, n = us.length := ⟨_, rfl⟩
  obtain ⟨m1, hm1⟩ : ∃ n, n = vs.length := ⟨_, rfl⟩
  have CX : Hid (∀ w', Below w.heap.size w w' → Calls Tryd.prog 10 #[.agg #[.bool s, .slice ao xs.length ca, .slice bo ys.length cb]] w' fun e w'' => e = .returned (.agg #[.bool s, .slice ao n1 ca, .slice bo m1 cb]) ∧ Below w'.heap.size w' w'') := fun w' hb => by rw [hn1, hm1]; exact CutRatio_any s ao bo ca cb xs ys us vs w' (hx.below hb) (hy.below hb) hu hv
  rw [← hn1, ← hm1] at RX
  obtain ⟨p, hp⟩ : ∃ p, p = rq s (val us) (dn (val vs)) := ⟨_, rfl⟩
  rw [← hp] at RX
  have PX := RX.self
  have tp : 0 < 10 ^ j := Nat.pow_pos (by omega)
  obtain ⟨A, hA⟩ : ∃ A, A = rnd s (rn p) p.den (10 ^ j) := ⟨_, rfl⟩
  obtain ⟨U, hU⟩ : ∃ U, U = rq false 1 (10 ^ j) := ⟨_, rfl⟩
  have hunits : (A / U).den = 1 := by rw [hA, hU]; exact rnd_units tp
  have hnear := rnd_near (s := s) (N := rn p) (T := 10 ^ j) (den_pos p) tp (A - p) U (by rw [hA, PX]) hU
  rw [PX] at hnear
  have RR : Hid (∀ w', RQ w' s ao n1 ca bo m1 cb p 12 → Calls Tryd.prog 32 #[.agg #[.bool s, .slice ao n1 ca, .slice bo m1 cb], .int .i64 i] w' (MakesQ A 312 w')) := fun w' h => by rw [hA]; exact Round_q s ao bo n1 ca m1 cb 12 j i p w' h (by omega) hij
  have F1 : Hid (∀ w', Calls Tryd.prog 33 #[.int .i64 1] w' (MakesQ (rq false 1 (10 ^ 0)) 2 w')) := fun w' => rFromInt_q 1 (by omega) (by omega) w'
  have F10 : Hid (∀ w', Calls Tryd.prog 33 #[.int .i64 10] w' (MakesQ (rq false 10 1) 2 w')) := fun w' => rFromInt_q 10 (by omega) (by omega) w'
  have HN := Lib.hid hnear
  have HU := Lib.hid hU
  have HUN := Lib.hid hunits
  have HI := Lib.hid hij
  have B0 := below_new w (.cells #[.bool s, .slice ao xs.length ca, .slice bo ys.length cb] 25)
  have x0 := heap_alloc_new w (.cells #[.bool s, .slice ao xs.length ca, .slice bo ys.length cb] 25)
  have hmj : min (max i 0) 12 = (j : Int) := hij
  clear hx hy hu hv hn1 hm1 hp PX tp hA hU hunits hnear hij
  go_enter Tryd.func8, Tryd.ntmps8
  go_wp2_with fail
  refine (CX.out _ B0).mono ?_; rintro e W2 ⟨rfl, b2⟩
  have x2 := carry x0 b2
  have B2 := B0.trans (b2.mono B0.size)
  obtain ⟨c0, c1, c2, z0, z1, z2⟩ := at_block x2
  have x3 := set3_at x2 (.bool s) (.slice ao n1 ca) (.slice bo m1 cb)
  have B3 := below3 B2 (Nat.le_refl _) (.bool s) (.slice ao n1 ca) (.slice bo m1 cb)
  obtain ⟨W3, hW3⟩ : ∃ W3, W3 = ((W2.setCell ⟨w.heap.size, 0, none⟩ (.bool s)).setCell ⟨w.heap.size, 1, none⟩ (.slice ao n1 ca)).setCell ⟨w.heap.size, 2, none⟩ (.slice bo m1 cb) := ⟨_, rfl⟩
  rw [← hW3] at x3 B3
  obtain ⟨e0, e1, e2, _⟩ := at_block x3
  clear x0 x2 b2 B0 B2 CX
  go_upto_region 2 with fail
  rw [← hW3]
  clear hW3 c0 c1 c2 z0 z1 z2
  go_wp2_with fail
  refine (RR.out _ (RX.below B3)).mono ?_; rintro e W4 ⟨s5, a5, n5, c5, o5, m5, d5, rfl, cq5, b5⟩
  have n5x := below_new W4 (.cells #[.bool s5, .slice a5 n5 c5, .slice o5 m5 d5] 25)
  have R5 : RndW w (W4.alloc (.cells #[.bool s5, .slice a5 n5 c5, .slice o5 m5 d5] 25)) W4.heap.size s ao n1 ca bo m1 cb s5 a5 n5 c5 o5 m5 d5 A :=
    ⟨carry (carry x3 b5) n5x, heap_alloc_new W4 _, (cq5.below n5x).mono (Nat.zero_le _), (B3.trans (b5.mono B3.size)).trans (n5x.mono (B3.trans (b5.mono B3.size)).size), (B3.trans (b5.mono B3.size)).size⟩
  obtain ⟨W5, hW5⟩ : ∃ W5, W5 = W4.alloc (.cells #[.bool s5, .slice a5 n5 c5, .slice o5 m5 d5] 25) := ⟨_, rfl⟩
  rw [← hW5] at R5
  clear n5x x3 cq5 b5 B3 RR e0 e1 e2
  go_wp2_with fail
  rw [← hW5]
  clear hW5
  refine (F1.out _).mono ?_; rintro e W6 ⟨s7, a7, n7, c7, o7, m7, d7, rfl, cq7, b7⟩
  have n7x := below_new W6 (.cells #[.bool s7, .slice a7 n7 c7, .slice o7 m7 d7] 25)
  have R7 := (R5.ext b7).ext n7x
  have u7 := heap_alloc_new W6 (.cells #[.bool s7, .slice a7 n7 c7, .slice o7 m7 d7] 25)
  have hg7 : W4.heap.size < W6.heap.size := Nat.lt_of_lt_of_le (Array.getElem?_eq_some_iff.1 R5.r).1 b7.size
  have c7x := ((cq7.below n7x).mono (Nat.zero_le _)).resize (unit_sm (i := 0) (by omega)).1 (unit_sm (i := 0) (by omega)).2
  obtain ⟨W7, hW7⟩ : ∃ W7, W7 = W6.alloc (.cells #[.bool s7, .slice a7 n7 c7, .slice o7 m7 d7] 25) := ⟨_, rfl⟩
  rw [← hW7] at R7 u7 c7x
  obtain ⟨gr, hgr⟩ : ∃ g, g = W4.heap.size := ⟨_, rfl⟩
  rw [← hgr] at R7 hg7 ⊢
  obtain ⟨gu, hgu⟩ : ∃ g, g = W6.heap.size := ⟨_, rfl⟩
  rw [← hgu] at u7 hg7
  have HGR := Lib.hid hg7
  clear n7x R5 b7 cq7 F1 hg7 hgr
  go_wp2_with fail
  rw [← hW7, ← hgu]
  clear hW7 hgu
  go_loopg [20] j (fun g s20 wr => ∃ (m : Nat) (uS : Bool) (uA : Option Addr) (uN uC : Nat) (uO : Option Addr) (uM uD : Nat), g + m = j ∧ s20 = .int .i64 (m : Int) ∧ RndW w wr gr s ao n1 ca bo m1 cb s5 a5 n5 c5 o5 m5 d5 A ∧ wr.heap[gu]? = some (.cells #[.bool uS, .slice uA uN uC, .slice uO uM uD] 25 (0, 0)) ∧ CQ 0 wr uS uA uN uC uO uM uD (rq false 1 (10 ^ m)) 200)
  case atStart => exact ⟨0, _, _, _, _, _, _, _, by omega, rfl, R7, u7, c7x⟩
  case round =>
    obtain ⟨m, uS, uA, uN, uC, uO, uM, uD, hgm, rfl, hR, hu, hc⟩ := hrel
    have HGM := Lib.hid hgm
    have hmb : (m : Int) ≤ 12 := by omega
    have hmn : m ≤ 12 := by omega
    clear R7 u7 c7x
    by_cases hlt : m < j
    · have hlt' : (m : Int) < (j : Int) := by omega
      have HM1 := Lib.hid hlt
      clear hgm hlt
      obtain ⟨k0, k1, k2, _⟩ := at_block (show wr.drew.heap[gu]? = _ from hu)
      go_wp2_with fail
      go_region_with (first
        | (go_at_call 33; refine (F10.out _).mono ?_; rintro e V1 ⟨s1, a1, l1, c1, o1, e1, d1, rfl, cq1, v1⟩; have w1 : Below wr.heap.size wr V1 := keepB v1 (Below.refl _ _).drew (Nat.le_refl _); obtain ⟨j0, j1, j2, _⟩ := at_block (carry hu w1))
        | (go_at_call 34; refine (rQuo_any uS s1 uA uO a1 o1 uN uC uM uD l1 c1 e1 d1 200 (rq false 1 (10 ^ m)) (rq false 10 1) _ (hc.rq.below w1) (cq1.rq.up (by omega) (by omega)) (by omega)).mono ?_; rintro e V2 ⟨s2, a2, l2, c2, o2, e2, d2, er, rfl, cq2, her, v2⟩; have w2 : Below wr.heap.size wr V2 := keepB v2 w1 (Nat.le_refl _); have hb2 := carry hu w2; obtain ⟨g0, g1, g2, y0, y1, y2⟩ := at_block hb2))
      all_goals
        have hx2 : Box3 V2 gu := ⟨_, _, _, hb2⟩
        have hE := Ext.set3 (n := 0) hx2 (Nat.zero_le _) (.bool s2) (.slice a2 l2 c2) (.slice o2 e2 d2)
        have hR2 := hR.ext w2
        have hgl := hR2.l
        have hgr := HGR.out
        have R3 : RndW w (((V2.setCell ⟨gu, 0, none⟩ (.bool s2)).setCell ⟨gu, 1, none⟩ (.slice a2 l2 c2)).setCell ⟨gu, 2, none⟩ (.slice o2 e2 d2)) gr s ao n1 ca bo m1 cb s5 a5 n5 c5 o5 m5 d5 A :=
          ⟨(set3_off (by omega) _ _ _).trans hR2.x, (set3_off (by omega) _ _ _).trans hR2.r, hR2.c.ext hE, below3 hR2.b (by omega) _ _ _, hR2.l⟩
        have u3 := set3_at hb2 (.bool s2) (.slice a2 l2 c2) (.slice o2 e2 d2)
        have c3 := ((cq2.mono (Nat.zero_le _)).ext hE)
        rw [unit_step] at c3
        have c4 := c3.resize (unit_sm (i := m + 1) (by omega)).1 (unit_sm (i := m + 1) (by omega)).2
        have HP := Lib.hid (And.intro R3 (And.intro u3 c4))
        clear R3 u3 c4 c3 hE hR2 hx2 hgl hgr her cq2 hb2 k0 k1 k2 j0 j1 j2
        go_wp2_with fail
        go_roundg (j - (m + 1))
        case measure => have := HGM.out; have := HM1.out; omega
        case rel => exact ⟨m + 1, s2, a2, l2, c2, o2, e2, d2, by have := HM1.out; omega, by go_num, HP.out⟩
    · have hmj' : m = j := by omega
      clear hgm hmb hmn HGM hlt
      subst hmj'
      rw [← HU.out] at hc
      have hjj : ¬ ((m : Int) < (m : Int)) := by omega
      obtain ⟨k0, k1, k2, _⟩ := at_block hR.r
      obtain ⟨k3, k4, k5, _⟩ := at_block hu
      go_wp2_with fail
      refine (rQuo_any s5 uS a5 o5 uA uO n5 c5 m5 d5 uN uC uM uD 312 A U _ hR.c.rq (hc.rq.up (by omega) (by omega)) (by omega)).mono ?_; rintro e W8 ⟨s8, a8, n8, c8, o8, m8, d8, er, rfl, cq8, her, b8⟩
      have hm8 : m8 = 0 := by
        have := cq8.2.2.1
        rw [HUN.out] at this
        exact this
      subst hm8
      have n8x := below_new W8 (.cells #[.bool s8, .slice a8 n8 c8, .slice o8 0 d8] 25)
      have R9 := (hR.ext b8).ext n8x
      have u9 := carry (carry hu b8) n8x
      have h9 := (hc.below b8).below n8x
      have y9 := heap_alloc_new W8 (.cells #[.bool s8, .slice a8 n8 c8, .slice o8 0 d8] 25)
      obtain ⟨W9, hW9⟩ : ∃ W9, W9 = W8.alloc (.cells #[.bool s8, .slice a8 n8 c8, .slice o8 0 d8] 25) := ⟨_, rfl⟩
      rw [← hW9] at R9 u9 h9 y9
      clear n8x hR hu hc b8 her cq8 k0 k1 k2 k3 k4 k5
      go_upto_region 9 with fail
      rw [← hW9]
      obtain ⟨gn, hgn⟩ : ∃ g, g = W8.heap.size := ⟨_, rfl⟩
      rw [← hgn] at y9 ⊢
      clear hW9 hgn
      obtain ⟨k0, k1, k2, _⟩ := at_block R9.r
      obtain ⟨k3, k4, k5, _⟩ := at_block R9.x
      go_wp2_with fail
      refine (rSub_q s5 s a5 o5 ao bo n5 c5 m5 d5 n1 ca m1 cb 312 A p _ R9.c.rq ((RX.below R9.b).up (by omega) (by omega)) (by omega)).mono ?_; rintro e W10 ⟨s7, a7, n7, c7, o7, m7, d7, rfl, cq10, b10⟩
      have n10x := below_new W10 (.cells #[.bool s7, .slice a7 n7 c7, .slice o7 m7 d7] 25)
      have R11 := (R9.ext b10).ext n10x
      have u11 := carry (carry u9 b10) n10x
      have h11 := (h9.below b10).below n10x
      have y11 := carry (carry y9 b10) n10x
      have q11 := (cq10.below n10x).mono (Nat.zero_le _)
      have d11 := heap_alloc_new W10 (.cells #[.bool s7, .slice a7 n7 c7, .slice o7 m7 d7] 25)
      obtain ⟨W11, hW11⟩ : ∃ W11, W11 = W10.alloc (.cells #[.bool s7, .slice a7 n7 c7, .slice o7 m7 d7] 25) := ⟨_, rfl⟩
      rw [← hW11] at R11 u11 h11 y11 q11 d11
      clear n10x R9 u9 h9 y9 b10 cq10 k0 k1 k2 k3 k4 k5
      go_upto_region 10 with fail
      rw [← hW11]
      obtain ⟨gd, hgd⟩ : ∃ g, g = W10.heap.size := ⟨_, rfl⟩
      rw [← hgd] at d11 ⊢
      clear hW11 hgd
      obtain ⟨z, hz⟩ : ∃ z, cq ((A - p) * (A - p)) (U * U * rq false 1 4) = z := ⟨_, rfl⟩
      have hn := HN.out
      rw [hz] at hn
      have HZ := Lib.hid hz
      have K : Hid (∀ w', Below W11.heap.size W11 w' → w'.cell? ⟨gd, 0, none⟩ = some (.bool s7) ∧ w'.cell? ⟨gd, 1, none⟩ = some (.slice a7 n7 c7) ∧ w'.cell? ⟨gd, 2, none⟩ = some (.slice o7 m7 d7) ∧ w'.cell? ⟨gu, 0, none⟩ = some (.bool uS) ∧ w'.cell? ⟨gu, 1, none⟩ = some (.slice uA uN uC) ∧ w'.cell? ⟨gu, 2, none⟩ = some (.slice uO uM uD) ∧ Below W11.heap.size W11 w') := by
        intro w' hb
        obtain ⟨a, b, c, _⟩ := at_block (carry d11 hb)
        obtain ⟨a', b', c', _⟩ := at_block (carry u11 hb)
        exact ⟨a, b, c, a', b', c', hb⟩
      have KD : Hid (∀ w', Below W11.heap.size W11 w' → RQ w' s7 a7 n7 c7 o7 m7 d7 (A - p) 625) := fun w' hb => q11.rq.below hb
      have KU : Hid (∀ w', Below W11.heap.size W11 w' → RQ w' uS uA uN uC uO uM uD U 200) := fun w' hb => h11.rq.below hb
      have HH := Lib.hid hn
      have HR := Lib.hid R11
      have HY := Lib.hid (And.intro y11 d11)
      clear hn hz u11 h11 q11 R11 y11 d11
      go_wp2_with fail
      go_region_held3 (fun w' => w'.cell? ⟨gd, 0, none⟩ = some (.bool s7) ∧ w'.cell? ⟨gd, 1, none⟩ = some (.slice a7 n7 c7) ∧ w'.cell? ⟨gd, 2, none⟩ = some (.slice o7 m7 d7) ∧ w'.cell? ⟨gu, 0, none⟩ = some (.bool uS) ∧ w'.cell? ⟨gu, 1, none⟩ = some (.slice uA uN uC) ∧ w'.cell? ⟨gu, 2, none⟩ = some (.slice uO uM uD) ∧ Below W11.heap.size W11 w')
        (first | exact K.out _ (Below.refl _ _).drew | exact K.out _ (keepB v1 (by assumption) (Nat.le_refl _)) | exact K.out _ (keepB v2 (by assumption) (Nat.le_refl _)) | exact K.out _ (keepB v3 (by assumption) (Nat.le_refl _)) | exact K.out _ (keepB v4 (by assumption) (Nat.le_refl _)) | exact K.out _ (keepB v5 (by assumption) (Nat.le_refl _)))
        (first
          | (go_at_call 35; have tk := v4; go_split_ands; refine (rCompare_q s1 s4 a1 o1 a4 o4 l1 c1 e1 d1 l4 c4 e4 d4 1251 _ _ _ (((cr1.below v2).below v3).below v4).rq (cr4.rq.up (by omega) (by omega)) (by omega)).mono ?_; rintro e V5 ⟨rfl, v5⟩; rw [HZ.out]; have BV : Below W11.heap.size W11 V5 := keepB v5 (by assumption) (Nat.le_refl _))
          | (go_at_call 36; have tk := v3; go_split_ands; refine (rMul_q s2 s3 a2 o2 a3 o3 l2 c2 e2 d2 l3 c3 e3 d3 401 (U * U) (rq false 1 4) _ (cr2.below v3).rq (cr3.rq.up (by omega) (by omega)) (by omega)).mono ?_; rintro e V4 ⟨s4, a4, l4, c4, o4, e4, d4, rfl, cr4, v4⟩)
          | (go_at_call 37; have tk := v2; go_split_ands; refine (quarter_q _).mono ?_; rintro e V3 ⟨s3, a3, l3, c3, o3, e3, d3, rfl, cr3, v3⟩)
          | (go_at_call 36; have tk := v1; go_split_ands; refine (rMul_q uS uS uA uO uA uO uN uC uM uD uN uC uM uD 200 U U _ (KU.out _ (by assumption)) (KU.out _ (by assumption)) (by omega)).mono ?_; rintro e V2 ⟨s2, a2, l2, c2, o2, e2, d2, rfl, cr2, v2⟩)
          | (go_at_call 36; go_split_ands; refine (rMul_q s7 s7 a7 o7 a7 o7 n7 c7 m7 d7 n7 c7 m7 d7 625 (A - p) (A - p) _ (KD.out _ (by assumption)) (KD.out _ (by assumption)) (by omega)).mono ?_; rintro e V1 ⟨s1, a1, l1, c1, o1, e1, d1, rfl, cr1, v1⟩))
      have R12 := HR.out.ext BV
      have y12 := carry HY.out.1 BV
      have d12 := carry HY.out.2 BV
      have K2 : Hid (∀ w', Below V5.heap.size V5 w' → w'.cell? ⟨gr, 0, none⟩ = some (.bool s5) ∧ w'.cell? ⟨gr, 1, none⟩ = some (.slice a5 n5 c5) ∧ w'.cell? ⟨gr, 2, none⟩ = some (.slice o5 m5 d5) ∧ w'.cell? ⟨gn, 2, none⟩ = some (.slice o8 0 d8) ∧ w'.cell? ⟨gd, 0, none⟩ = some (.bool s7) ∧ w'.cell? ⟨gd, 1, none⟩ = some (.slice a7 n7 c7) ∧ w'.cell? ⟨gd, 2, none⟩ = some (.slice o7 m7 d7) ∧ w'.cell? ⟨w.heap.size, 0, none⟩ = some (.bool s) ∧ w'.cell? ⟨w.heap.size, 1, none⟩ = some (.slice ao n1 ca) ∧ w'.cell? ⟨w.heap.size, 2, none⟩ = some (.slice bo m1 cb)) := by
        intro w' hb
        obtain ⟨a, b, c, _⟩ := at_block (carry R12.r hb)
        obtain ⟨_, _, f, _⟩ := at_block (carry y12 hb)
        obtain ⟨a', b', c', _⟩ := at_block (carry d12 hb)
        obtain ⟨a'', b'', c'', _⟩ := at_block (carry R12.x hb)
        exact ⟨a, b, c, f, a', b', c', a'', b'', c''⟩
      have KR : Hid (∀ w', Below V5.heap.size V5 w' → CQ 0 w' s5 a5 n5 c5 o5 m5 d5 A 312) := fun w' hb => R12.c.below hb
      have KX : Hid (∀ w', Below V5.heap.size V5 w' → Below w.heap.size w w') := fun w' hb => R12.b.trans (hb.mono R12.b.size)
      have KD2 : Hid (∀ w', Below V5.heap.size V5 w' → RQ w' s7 a7 n7 c7 o7 m7 d7 (A - p) 625) := fun w' hb => (KD.out _ BV).below hb
      have hle := HH.out.1
      have hTab := htab
      clear R12 y12 d12 cr1 cr2 cr3 cr4 v1 v2 v3 v4 v5
      by_cases hz0 : z < 0
      · go_wp2_with fail
        refine wp_region_held_drew (S := fun w' => Below V5.heap.size V5 w') (by kernel_rfl) ((Below.refl _ _).drew) (fun hH => ?_)
        refine wpAnyH_take (i := 0) (v := (.agg #[.bool s5, .slice a5 n5 c5, .slice o5 m5 d5])) rfl (by kernel_rfl) (by kernel_rfl) (by kernel_rfl) (fun _ _ _ h => h) (Or.inl ⟨by kernel_rfl, ?_⟩) hH ?_
        · intro w1 hB
          obtain ⟨j0, j1, j2, j3, j4, j5, j6, j7, j8, j9⟩ := K2.out _ hB
          go_simp
        change wpAnyH _ _ _ _ _ _ _ (Act.put _ (some 47) _) _
        try simp only [Act.put, List.setIfInBounds_toArray, List.set_cons_zero, List.set_cons_succ]
        refine wpAnyH_ready (rs := [1]) (by kernel_rfl) (by simp) ?_
        refine AllReadyH.cons rfl (fun K hK => ?_) AllReadyH.nil
        go_simp
        refine (canonical_q (KR.out _ hH)).mono ?_
        rintro e V1 ⟨rfl, v1⟩
        try go_simp
        refine hK.out _ _ (keepB v1 hH (Nat.le_refl _)) (fun hH1 => ?_)
        clear hK K
        try simp only [Act.put, List.setIfInBounds_toArray, List.set_cons_zero, List.set_cons_succ]
        refine wpAnyH_take (i := 2) (v := (.bool true)) rfl (by kernel_rfl) (by kernel_rfl) (by kernel_rfl) (fun _ _ _ h => h) (Or.inl ⟨by kernel_rfl, ?_⟩) hH1 ?_
        · intro w1 hB
          go_simp
        change wpAnyH _ _ _ _ _ _ _ (Act.put _ (some 49) _) _
        try simp only [Act.put, List.setIfInBounds_toArray, List.set_cons_zero, List.set_cons_succ]
        refine wpAnyH_take (i := 3) (v := (.pointer (some ⟨gn, 2, none⟩))) rfl (by kernel_rfl) (by kernel_rfl) (by kernel_rfl) (fun _ _ _ h => h) (Or.inl ⟨by kernel_rfl, ?_⟩) hH1 ?_
        · intro w1 hB
          go_simp
        change wpAnyH _ _ _ _ _ _ _ (Act.put _ (some 50) _) _
        try simp only [Act.put, List.setIfInBounds_toArray, List.set_cons_zero, List.set_cons_succ]
        refine wpAnyH_take (i := 4) (v := (.slice o8 0 d8)) rfl (by kernel_rfl) (by kernel_rfl) (by kernel_rfl) (fun _ _ _ h => h) (Or.inl ⟨by kernel_rfl, ?_⟩) hH1 ?_
        · intro w1 hB
          obtain ⟨j0, j1, j2, j3, j4, j5, j6, j7, j8, j9⟩ := K2.out _ hB
          go_simp
        change wpAnyH _ _ _ _ _ _ _ (Act.put _ (some 51) _) _
        try simp only [Act.put, List.setIfInBounds_toArray, List.set_cons_zero, List.set_cons_succ]
        refine wpAnyH_take (i := 5) (v := (.int .i64 0)) rfl (by kernel_rfl) (by kernel_rfl) (by kernel_rfl) (fun _ _ _ h => h) (Or.inl ⟨by kernel_rfl, ?_⟩) hH1 ?_
        · intro w1 hB
          go_simp
        change wpAnyH _ _ _ _ _ _ _ (Act.put _ (some 52) _) _
        try simp only [Act.put, List.setIfInBounds_toArray, List.set_cons_zero, List.set_cons_succ]
        refine wpAnyH_take (i := 6) (v := (.bool true)) rfl (by kernel_rfl) (by kernel_rfl) (by kernel_rfl) (fun _ _ _ h => h) (Or.inl ⟨by kernel_rfl, ?_⟩) hH1 ?_
        · intro w1 hB
          go_simp
        change wpAnyH _ _ _ _ _ _ _ (Act.put _ (some 53) _) _
        try simp only [Act.put, List.setIfInBounds_toArray, List.set_cons_zero, List.set_cons_succ]
        refine wpAnyH_take (i := 7) (v := (.bool true)) rfl (by kernel_rfl) (by kernel_rfl) (by kernel_rfl) (fun _ _ _ h => h) (Or.inl ⟨by kernel_rfl, ?_⟩) hH1 ?_
        · intro w1 hB
          go_simp
        change wpAnyH _ _ _ _ _ _ _ (Act.put _ (some 54) _) _
        try simp only [Act.put, List.setIfInBounds_toArray, List.set_cons_zero, List.set_cons_succ]
        refine wpAnyH_take (i := 8) (v := (.bool true)) rfl (by kernel_rfl) (by kernel_rfl) (by kernel_rfl) (fun _ _ _ h => h) (Or.inl ⟨by kernel_rfl, ?_⟩) hH1 ?_
        · intro w1 hB
          go_simp
        change wpAnyH _ _ _ _ _ _ _ (Act.put _ (some 55) _) _
        try simp only [Act.put, List.setIfInBounds_toArray, List.set_cons_zero, List.set_cons_succ]
        refine wpAnyH_take (i := 9) (v := (.int .i64 z)) rfl (by kernel_rfl) (by kernel_rfl) (by kernel_rfl) (fun _ _ _ h => h) (Or.inl ⟨by kernel_rfl, ?_⟩) hH1 ?_
        · intro w1 hB
          go_simp
        change wpAnyH _ _ _ _ _ _ _ (Act.put _ (some 56) _) _
        try simp only [Act.put, List.setIfInBounds_toArray, List.set_cons_zero, List.set_cons_succ]
        refine wpAnyH_take (i := 10) (v := (.bool true)) rfl (by kernel_rfl) (by kernel_rfl) (by kernel_rfl) (fun _ _ _ h => h) (Or.inl ⟨by kernel_rfl, ?_⟩) hH1 ?_
        · intro w1 hB
          go_simp
        change wpAnyH _ _ _ _ _ _ _ (Act.put _ (some 57) _) _
        try simp only [Act.put, List.setIfInBounds_toArray, List.set_cons_zero, List.set_cons_succ]
        refine wpAnyH_take (i := 11) (v := (.bool true)) rfl (by kernel_rfl) (by kernel_rfl) (by kernel_rfl) (fun _ _ _ h => h) (Or.inl ⟨by kernel_rfl, ?_⟩) hH1 ?_
        · intro w1 hB
          go_simp
        change wpAnyH _ _ _ _ _ _ _ (Act.put _ (some 58) _) _
        try simp only [Act.put, List.setIfInBounds_toArray, List.set_cons_zero, List.set_cons_succ]
        refine wpAnyH_take (i := 12) (v := (.bool true)) rfl (by kernel_rfl) (by kernel_rfl) (by kernel_rfl) (fun _ _ _ h => h) (Or.inl ⟨by kernel_rfl, ?_⟩) hH1 ?_
        · intro w1 hB
          go_simp
        change wpAnyH _ _ _ _ _ _ _ (Act.put _ (some 59) _) _
        try simp only [Act.put, List.setIfInBounds_toArray, List.set_cons_zero, List.set_cons_succ]
        refine wpAnyH_take (i := 13) (v := (.int .i64 z)) rfl (by kernel_rfl) (by kernel_rfl) (by kernel_rfl) (fun _ _ _ h => h) (Or.inl ⟨by kernel_rfl, ?_⟩) hH1 ?_
        · intro w1 hB
          go_simp
        change wpAnyH _ _ _ _ _ _ _ (Act.put _ (some 60) _) _
        try simp only [Act.put, List.setIfInBounds_toArray, List.set_cons_zero, List.set_cons_succ]
        refine wpAnyH_take (i := 14) (v := (.bool true)) rfl (by kernel_rfl) (by kernel_rfl) (by kernel_rfl) (fun _ _ _ h => h) (Or.inl ⟨by kernel_rfl, ?_⟩) hH1 ?_
        · intro w1 hB
          go_simp
        change wpAnyH _ _ _ _ _ _ _ (Act.put _ (some 61) _) _
        try simp only [Act.put, List.setIfInBounds_toArray, List.set_cons_zero, List.set_cons_succ]
        refine wpAnyH_take (i := 15) (v := (.bool true)) rfl (by kernel_rfl) (by kernel_rfl) (by kernel_rfl) (fun _ _ _ h => h) (Or.inl ⟨by kernel_rfl, ?_⟩) hH1 ?_
        · intro w1 hB
          go_simp
        change wpAnyH _ _ _ _ _ _ _ (Act.put _ (some 62) _) _
        try simp only [Act.put, List.setIfInBounds_toArray, List.set_cons_zero, List.set_cons_succ]
        refine wpAnyH_take (i := 16) (v := undef) rfl (by kernel_rfl) (by kernel_rfl) (by kernel_rfl) (fun _ _ _ h => h) (Or.inr ⟨by kernel_rfl, rfl⟩) hH1 ?_
        change wpAnyH _ _ _ _ _ _ _ (Act.put _ (some 63) _) _
        try simp only [Act.put, List.setIfInBounds_toArray, List.set_cons_zero, List.set_cons_succ]
        refine wpAnyH_take (i := 17) (v := undef) rfl (by kernel_rfl) (by kernel_rfl) (by kernel_rfl) (fun _ _ _ h => h) (Or.inr ⟨by kernel_rfl, rfl⟩) hH1 ?_
        change wpAnyH _ _ _ _ _ _ _ (Act.put _ (some 64) _) _
        try simp only [Act.put, List.setIfInBounds_toArray, List.set_cons_zero, List.set_cons_succ]
        refine wpAnyH_take (i := 18) (v := undef) rfl (by kernel_rfl) (by kernel_rfl) (by kernel_rfl) (fun _ _ _ h => h) (Or.inr ⟨by kernel_rfl, rfl⟩) hH1 ?_
        change wpAnyH _ _ _ _ _ _ _ (Act.put _ (some 65) _) _
        try simp only [Act.put, List.setIfInBounds_toArray, List.set_cons_zero, List.set_cons_succ]
        refine wpAnyH_take (i := 19) (v := undef) rfl (by kernel_rfl) (by kernel_rfl) (by kernel_rfl) (fun _ _ _ h => h) (Or.inr ⟨by kernel_rfl, rfl⟩) hH1 ?_
        change wpAnyH _ _ _ _ _ _ _ (Act.put _ (some 66) _) _
        try simp only [Act.put, List.setIfInBounds_toArray, List.set_cons_zero, List.set_cons_succ]
        refine wpAnyH_take (i := 20) (v := undef) rfl (by kernel_rfl) (by kernel_rfl) (by kernel_rfl) (fun _ _ _ h => h) (Or.inr ⟨by kernel_rfl, rfl⟩) hH1 ?_
        change wpAnyH _ _ _ _ _ _ _ (Act.put _ (some 67) _) _
        try simp only [Act.put, List.setIfInBounds_toArray, List.set_cons_zero, List.set_cons_succ]
        refine wpAnyH_take (i := 21) (v := (.bool true)) rfl (by kernel_rfl) (by kernel_rfl) (by kernel_rfl) (fun _ _ _ h => h) (Or.inl ⟨by kernel_rfl, ?_⟩) hH1 ?_
        · intro w1 hB
          go_simp
        change wpAnyH _ _ _ _ _ _ _ (Act.put _ (some 68) _) _
        try simp only [Act.put, List.setIfInBounds_toArray, List.set_cons_zero, List.set_cons_succ]
        refine wpAnyH_take (i := 22) (v := (.bool true)) rfl (by kernel_rfl) (by kernel_rfl) (by kernel_rfl) (fun _ _ _ h => h) (Or.inl ⟨by kernel_rfl, ?_⟩) hH1 ?_
        · intro w1 hB
          go_simp
        change wpAnyH _ _ _ _ _ _ _ (Act.put _ (some 69) _) _
        try simp only [Act.put, List.setIfInBounds_toArray, List.set_cons_zero, List.set_cons_succ]
        refine wpAnyH_take (i := 23) (v := (.bool true)) rfl (by kernel_rfl) (by kernel_rfl) (by kernel_rfl) (fun _ _ _ h => h) (Or.inl ⟨by kernel_rfl, ?_⟩) hH1 ?_
        · intro w1 hB
          go_simp
        change wpAnyH _ _ _ _ _ _ _ (Act.put _ (some 70) _) _
        try simp only [Act.put, List.setIfInBounds_toArray, List.set_cons_zero, List.set_cons_succ]
        refine wpAnyH_ready (rs := [24]) (by kernel_rfl) (by simp) ?_
        refine AllReadyH.cons rfl (fun K hK => ?_) AllReadyH.nil
        go_simp
        refine (awake2_any _ (hTab.below (KX.out _ hH1))).mono ?_
        rintro e V24 ⟨rfl, v24⟩
        try go_simp
        refine hK.out _ _ (keepB v24 hH1 (Nat.le_refl _)) (fun hH24 => ?_)
        clear hK K
        try simp only [Act.put, List.setIfInBounds_toArray, List.set_cons_zero, List.set_cons_succ]
        refine wpAnyH_take (i := 25) (v := (.bool true)) rfl (by kernel_rfl) (by kernel_rfl) (by kernel_rfl) (fun _ _ _ h => h) (Or.inl ⟨by kernel_rfl, ?_⟩) hH24 ?_
        · intro w1 hB
          go_simp
        change wpAnyH _ _ _ _ _ _ _ (Act.put _ (some 72) _) _
        try simp only [Act.put, List.setIfInBounds_toArray, List.set_cons_zero, List.set_cons_succ]
        refine wpAnyH_take (i := 26) (v := (.bool true)) rfl (by kernel_rfl) (by kernel_rfl) (by kernel_rfl) (fun _ _ _ h => h) (Or.inl ⟨by kernel_rfl, ?_⟩) hH24 ?_
        · intro w1 hB
          go_simp
        change wpAnyH _ _ _ _ _ _ _ (Act.put _ (some 4) _) _
        try simp only [Act.put, List.setIfInBounds_toArray, List.set_cons_zero, List.set_cons_succ]
        refine wpAnyH_done (by kernel_rfl) ?_ _
        have BW := KX.out _ hH24
        go_wp2_with fail
        go_ret
        exact ⟨rfl, BW⟩
      · have hz1 : z = 0 := by omega
        have hs := HH.out.2 hz1
        obtain ⟨σ, hσ⟩ : ∃ σ, sgn p = σ := ⟨_, rfl⟩
        have HS2 := Lib.hid hσ
        have HS1 := Lib.hid (hs.trans hσ)
        clear hs hσ HZ HH hle hz0
        subst hz1
        go_wp2_with fail
        refine wp_region_held_drew (S := fun w' => Below V5.heap.size V5 w') (by kernel_rfl) ((Below.refl _ _).drew) (fun hH => ?_)
        refine wpAnyH_take (i := 0) (v := (.agg #[.bool s5, .slice a5 n5 c5, .slice o5 m5 d5])) rfl (by kernel_rfl) (by kernel_rfl) (by kernel_rfl) (fun _ _ _ h => h) (Or.inl ⟨by kernel_rfl, ?_⟩) hH ?_
        · intro w1 hB
          obtain ⟨j0, j1, j2, j3, j4, j5, j6, j7, j8, j9⟩ := K2.out _ hB
          go_simp
        change wpAnyH _ _ _ _ _ _ _ (Act.put _ (some 47) _) _
        try simp only [Act.put, List.setIfInBounds_toArray, List.set_cons_zero, List.set_cons_succ]
        refine wpAnyH_ready (rs := [1]) (by kernel_rfl) (by simp) ?_
        refine AllReadyH.cons rfl (fun K hK => ?_) AllReadyH.nil
        go_simp
        refine (canonical_q (KR.out _ hH)).mono ?_
        rintro e V1 ⟨rfl, v1⟩
        try go_simp
        refine hK.out _ _ (keepB v1 hH (Nat.le_refl _)) (fun hH1 => ?_)
        clear hK K
        try simp only [Act.put, List.setIfInBounds_toArray, List.set_cons_zero, List.set_cons_succ]
        refine wpAnyH_take (i := 2) (v := (.bool true)) rfl (by kernel_rfl) (by kernel_rfl) (by kernel_rfl) (fun _ _ _ h => h) (Or.inl ⟨by kernel_rfl, ?_⟩) hH1 ?_
        · intro w1 hB
          go_simp
        change wpAnyH _ _ _ _ _ _ _ (Act.put _ (some 49) _) _
        try simp only [Act.put, List.setIfInBounds_toArray, List.set_cons_zero, List.set_cons_succ]
        refine wpAnyH_take (i := 3) (v := (.pointer (some ⟨gn, 2, none⟩))) rfl (by kernel_rfl) (by kernel_rfl) (by kernel_rfl) (fun _ _ _ h => h) (Or.inl ⟨by kernel_rfl, ?_⟩) hH1 ?_
        · intro w1 hB
          go_simp
        change wpAnyH _ _ _ _ _ _ _ (Act.put _ (some 50) _) _
        try simp only [Act.put, List.setIfInBounds_toArray, List.set_cons_zero, List.set_cons_succ]
        refine wpAnyH_take (i := 4) (v := (.slice o8 0 d8)) rfl (by kernel_rfl) (by kernel_rfl) (by kernel_rfl) (fun _ _ _ h => h) (Or.inl ⟨by kernel_rfl, ?_⟩) hH1 ?_
        · intro w1 hB
          obtain ⟨j0, j1, j2, j3, j4, j5, j6, j7, j8, j9⟩ := K2.out _ hB
          go_simp
        change wpAnyH _ _ _ _ _ _ _ (Act.put _ (some 51) _) _
        try simp only [Act.put, List.setIfInBounds_toArray, List.set_cons_zero, List.set_cons_succ]
        refine wpAnyH_take (i := 5) (v := (.int .i64 0)) rfl (by kernel_rfl) (by kernel_rfl) (by kernel_rfl) (fun _ _ _ h => h) (Or.inl ⟨by kernel_rfl, ?_⟩) hH1 ?_
        · intro w1 hB
          go_simp
        change wpAnyH _ _ _ _ _ _ _ (Act.put _ (some 52) _) _
        try simp only [Act.put, List.setIfInBounds_toArray, List.set_cons_zero, List.set_cons_succ]
        refine wpAnyH_take (i := 6) (v := (.bool true)) rfl (by kernel_rfl) (by kernel_rfl) (by kernel_rfl) (fun _ _ _ h => h) (Or.inl ⟨by kernel_rfl, ?_⟩) hH1 ?_
        · intro w1 hB
          go_simp
        change wpAnyH _ _ _ _ _ _ _ (Act.put _ (some 53) _) _
        try simp only [Act.put, List.setIfInBounds_toArray, List.set_cons_zero, List.set_cons_succ]
        refine wpAnyH_take (i := 7) (v := (.bool true)) rfl (by kernel_rfl) (by kernel_rfl) (by kernel_rfl) (fun _ _ _ h => h) (Or.inl ⟨by kernel_rfl, ?_⟩) hH1 ?_
        · intro w1 hB
          go_simp
        change wpAnyH _ _ _ _ _ _ _ (Act.put _ (some 54) _) _
        try simp only [Act.put, List.setIfInBounds_toArray, List.set_cons_zero, List.set_cons_succ]
        refine wpAnyH_take (i := 8) (v := (.bool true)) rfl (by kernel_rfl) (by kernel_rfl) (by kernel_rfl) (fun _ _ _ h => h) (Or.inl ⟨by kernel_rfl, ?_⟩) hH1 ?_
        · intro w1 hB
          go_simp
        change wpAnyH _ _ _ _ _ _ _ (Act.put _ (some 55) _) _
        try simp only [Act.put, List.setIfInBounds_toArray, List.set_cons_zero, List.set_cons_succ]
        refine wpAnyH_take (i := 9) (v := (.int .i64 0)) rfl (by kernel_rfl) (by kernel_rfl) (by kernel_rfl) (fun _ _ _ h => h) (Or.inl ⟨by kernel_rfl, ?_⟩) hH1 ?_
        · intro w1 hB
          go_simp
        change wpAnyH _ _ _ _ _ _ _ (Act.put _ (some 56) _) _
        try simp only [Act.put, List.setIfInBounds_toArray, List.set_cons_zero, List.set_cons_succ]
        refine wpAnyH_take (i := 10) (v := (.bool true)) rfl (by kernel_rfl) (by kernel_rfl) (by kernel_rfl) (fun _ _ _ h => h) (Or.inl ⟨by kernel_rfl, ?_⟩) hH1 ?_
        · intro w1 hB
          go_simp
        change wpAnyH _ _ _ _ _ _ _ (Act.put _ (some 57) _) _
        try simp only [Act.put, List.setIfInBounds_toArray, List.set_cons_zero, List.set_cons_succ]
        refine wpAnyH_take (i := 11) (v := (.bool true)) rfl (by kernel_rfl) (by kernel_rfl) (by kernel_rfl) (fun _ _ _ h => h) (Or.inl ⟨by kernel_rfl, ?_⟩) hH1 ?_
        · intro w1 hB
          go_simp
        change wpAnyH _ _ _ _ _ _ _ (Act.put _ (some 58) _) _
        try simp only [Act.put, List.setIfInBounds_toArray, List.set_cons_zero, List.set_cons_succ]
        refine wpAnyH_take (i := 12) (v := (.bool true)) rfl (by kernel_rfl) (by kernel_rfl) (by kernel_rfl) (fun _ _ _ h => h) (Or.inl ⟨by kernel_rfl, ?_⟩) hH1 ?_
        · intro w1 hB
          go_simp
        change wpAnyH _ _ _ _ _ _ _ (Act.put _ (some 59) _) _
        try simp only [Act.put, List.setIfInBounds_toArray, List.set_cons_zero, List.set_cons_succ]
        refine wpAnyH_take (i := 13) (v := (.int .i64 0)) rfl (by kernel_rfl) (by kernel_rfl) (by kernel_rfl) (fun _ _ _ h => h) (Or.inl ⟨by kernel_rfl, ?_⟩) hH1 ?_
        · intro w1 hB
          go_simp
        change wpAnyH _ _ _ _ _ _ _ (Act.put _ (some 60) _) _
        try simp only [Act.put, List.setIfInBounds_toArray, List.set_cons_zero, List.set_cons_succ]
        refine wpAnyH_take (i := 14) (v := (.bool false)) rfl (by kernel_rfl) (by kernel_rfl) (by kernel_rfl) (fun _ _ _ h => h) (Or.inl ⟨by kernel_rfl, ?_⟩) hH1 ?_
        · intro w1 hB
          go_simp
        change wpAnyH _ _ _ _ _ _ _ (Act.put _ (some 61) _) _
        try simp only [Act.put, List.setIfInBounds_toArray, List.set_cons_zero, List.set_cons_succ]
        refine wpAnyH_take (i := 15) (v := (.bool false)) rfl (by kernel_rfl) (by kernel_rfl) (by kernel_rfl) (fun _ _ _ h => h) (Or.inl ⟨by kernel_rfl, ?_⟩) hH1 ?_
        · intro w1 hB
          go_simp
        change wpAnyH _ _ _ _ _ _ _ (Act.put _ (some 62) _) _
        try simp only [Act.put, List.setIfInBounds_toArray, List.set_cons_zero, List.set_cons_succ]
        refine wpAnyH_take (i := 16) (v := (.agg #[.bool s7, .slice a7 n7 c7, .slice o7 m7 d7])) rfl (by kernel_rfl) (by kernel_rfl) (by kernel_rfl) (fun _ _ _ h => h) (Or.inl ⟨by kernel_rfl, ?_⟩) hH1 ?_
        · intro w1 hB
          obtain ⟨j0, j1, j2, j3, j4, j5, j6, j7, j8, j9⟩ := K2.out _ hB
          go_simp
        change wpAnyH _ _ _ _ _ _ _ (Act.put _ (some 63) _) _
        try simp only [Act.put, List.setIfInBounds_toArray, List.set_cons_zero, List.set_cons_succ]
        refine wpAnyH_take (i := 18) (v := (.agg #[.bool s, .slice ao n1 ca, .slice bo m1 cb])) rfl (by kernel_rfl) (by kernel_rfl) (by kernel_rfl) (fun _ _ _ h => h) (Or.inl ⟨by kernel_rfl, ?_⟩) hH1 ?_
        · intro w1 hB
          obtain ⟨j0, j1, j2, j3, j4, j5, j6, j7, j8, j9⟩ := K2.out _ hB
          go_simp
        change wpAnyH _ _ _ _ _ _ _ (Act.put _ (some 65) _) _
        try simp only [Act.put, List.setIfInBounds_toArray, List.set_cons_zero, List.set_cons_succ]
        refine wpAnyH_ready (rs := [17]) (by kernel_rfl) (by simp) ?_
        refine AllReadyH.cons rfl (fun K hK => ?_) AllReadyH.nil
        go_simp
        refine (rSign_q s7 a7 o7 n7 c7 m7 d7 625 (A - p) _ (KD2.out _ hH1)).mono ?_
        rintro e V17 ⟨rfl, v17⟩
        rw [HS1.out]
        try go_simp
        refine hK.out _ _ (keepB v17 hH1 (Nat.le_refl _)) (fun hH17 => ?_)
        clear hK K
        try simp only [Act.put, List.setIfInBounds_toArray, List.set_cons_zero, List.set_cons_succ]
        refine wpAnyH_ready (rs := [19]) (by kernel_rfl) (by simp) ?_
        refine AllReadyH.cons rfl (fun K hK => ?_) AllReadyH.nil
        go_simp
        refine (rSign_q s ao bo n1 ca m1 cb 12 p _ (RX.below (KX.out _ hH17))).mono ?_
        rintro e V19 ⟨rfl, v19⟩
        rw [HS2.out]
        try go_simp
        refine hK.out _ _ (keepB v19 hH17 (Nat.le_refl _)) (fun hH19 => ?_)
        clear hK K
        try simp only [Act.put, List.setIfInBounds_toArray, List.set_cons_zero, List.set_cons_succ]
        refine wpAnyH_take (i := 20) (v := (.bool true)) rfl (by kernel_rfl) (by kernel_rfl) (by kernel_rfl) (fun _ _ _ h => h) (Or.inl ⟨by kernel_rfl, ?_⟩) hH19 ?_
        · intro w1 hB
          go_simp
        change wpAnyH _ _ _ _ _ _ _ (Act.put _ (some 67) _) _
        try simp only [Act.put, List.setIfInBounds_toArray, List.set_cons_zero, List.set_cons_succ]
        refine wpAnyH_take (i := 21) (v := (.bool true)) rfl (by kernel_rfl) (by kernel_rfl) (by kernel_rfl) (fun _ _ _ h => h) (Or.inl ⟨by kernel_rfl, ?_⟩) hH19 ?_
        · intro w1 hB
          go_simp
        change wpAnyH _ _ _ _ _ _ _ (Act.put _ (some 68) _) _
        try simp only [Act.put, List.setIfInBounds_toArray, List.set_cons_zero, List.set_cons_succ]
        refine wpAnyH_take (i := 22) (v := (.bool true)) rfl (by kernel_rfl) (by kernel_rfl) (by kernel_rfl) (fun _ _ _ h => h) (Or.inl ⟨by kernel_rfl, ?_⟩) hH19 ?_
        · intro w1 hB
          go_simp
        change wpAnyH _ _ _ _ _ _ _ (Act.put _ (some 69) _) _
        try simp only [Act.put, List.setIfInBounds_toArray, List.set_cons_zero, List.set_cons_succ]
        refine wpAnyH_take (i := 23) (v := (.bool true)) rfl (by kernel_rfl) (by kernel_rfl) (by kernel_rfl) (fun _ _ _ h => h) (Or.inl ⟨by kernel_rfl, ?_⟩) hH19 ?_
        · intro w1 hB
          go_simp
        change wpAnyH _ _ _ _ _ _ _ (Act.put _ (some 70) _) _
        try simp only [Act.put, List.setIfInBounds_toArray, List.set_cons_zero, List.set_cons_succ]
        refine wpAnyH_ready (rs := [24]) (by kernel_rfl) (by simp) ?_
        refine AllReadyH.cons rfl (fun K hK => ?_) AllReadyH.nil
        go_simp
        refine (awake2_any _ (hTab.below (KX.out _ hH19))).mono ?_
        rintro e V24 ⟨rfl, v24⟩
        try go_simp
        refine hK.out _ _ (keepB v24 hH19 (Nat.le_refl _)) (fun hH24 => ?_)
        clear hK K
        try simp only [Act.put, List.setIfInBounds_toArray, List.set_cons_zero, List.set_cons_succ]
        refine wpAnyH_take (i := 25) (v := (.bool true)) rfl (by kernel_rfl) (by kernel_rfl) (by kernel_rfl) (fun _ _ _ h => h) (Or.inl ⟨by kernel_rfl, ?_⟩) hH24 ?_
        · intro w1 hB
          go_simp
        change wpAnyH _ _ _ _ _ _ _ (Act.put _ (some 72) _) _
        try simp only [Act.put, List.setIfInBounds_toArray, List.set_cons_zero, List.set_cons_succ]
        refine wpAnyH_take (i := 26) (v := (.bool true)) rfl (by kernel_rfl) (by kernel_rfl) (by kernel_rfl) (fun _ _ _ h => h) (Or.inl ⟨by kernel_rfl, ?_⟩) hH24 ?_
        · intro w1 hB
          go_simp
        change wpAnyH _ _ _ _ _ _ _ (Act.put _ (some 4) _) _
        try simp only [Act.put, List.setIfInBounds_toArray, List.set_cons_zero, List.set_cons_succ]
        refine wpAnyH_done (by kernel_rfl) ?_ _
        have BW := KX.out _ hH24
        go_wp2_with fail
        go_ret
        exact ⟨rfl, BW⟩
end Go.Proofs.YtaefncebebonoaaDoor
