import Derived.Test.YtjijnngblhddkaaGreatDoorTxts6
import Derived.Test.YtjijnngblhddkaaGreatDoorPar3
import Derived.Test.YtjijnngblhddkaaGreatDoorRats2
import Derived.Test.YtjijnngblhddkaaGreatDoorAwake2
/- RationalDigits: the walk. -/
namespace Go.Proofs.YtjijnngblhddkaaGreatDoor
open Go.RowKit Go.Sort

set_option maxHeartbeats 16000000 in
set_option maxRecDepth 100000 in
theorem RationalDigits_any (n d : Int) (neg : Bool) (at' by' : Int) (w : World) (h0 : 0 ≤ by') (h1 : by' ≤ 255) (htab : Tab w) (hev : ErrV w) :
    Calls Tryz.prog 5 #[.int .i64 n, .int .i64 d, .bool neg, .int .i64 at', .int .u8 by'] w fun e w' => e = .returned (.bool true) ∧ Below w.heap.size w w' := by
  obtain ⟨x, hx⟩ : ∃ x : UInt8, by' = (x.toNat : Int) := ⟨UInt8.ofNat by'.toNat, by rw [UInt8.toNat_ofNat']; omega⟩
  subst hx
  have hwn : 0 ≤ IntKind.u64.wrap n ∧ IntKind.u64.wrap n ≤ 18446744073709551615 := by rw [IntKind.wrap_u64]; omega
  have hwd : 0 ≤ IntKind.u64.wrap d ∧ IntKind.u64.wrap d ≤ 18446744073709551615 := by rw [IntKind.wrap_u64]; omega
  obtain ⟨a, ha⟩ : ∃ a : Nat, IntKind.u64.wrap n = (a : Int) := ⟨(IntKind.u64.wrap n).toNat, by omega⟩
  obtain ⟨b, hb⟩ : ∃ b : Nat, IntKind.u64.wrap d = (b : Int) := ⟨(IntKind.u64.wrap d).toNat, by omega⟩
  obtain ⟨r, hr⟩ : ∃ r : Nat, (b : Int) % 1000000 = (r : Int) := ⟨b % 1000000, by omega⟩
  have hab : a < 18446744073709551616 := by omega
  have hrb : r < 1000000 := by omega
  obtain ⟨S1, hS1⟩ : ∃ S : ByteArray, S = ⟨(Lib.decDigits a).toArray⟩ := ⟨_, rfl⟩
  obtain ⟨S2, hS2⟩ : ∃ S : ByteArray, S = ⟨(Lib.decDigits r).toArray⟩ := ⟨_, rfl⟩
  have hs1 : S1.size ≤ 20 := by
    have := dec_len (k := 19) (n := a) (by omega)
    rw [hS1]
    simpa [ByteArray.size] using this
  have hs2 : S2.size ≤ 6 := by
    have := dec_len (k := 5) (n := r) (by omega)
    rw [hS2]
    simpa [ByteArray.size] using this
  have F1 : Hid (∀ w', Calls Tryz.prog 19 #[.int .u64 (a : Int)] w' (Makes a w')) := fun w' => by
    have := rFromUint_any (a : Int) (by omega) (by omega) w'
    rw [Int.toNat_natCast] at this
    exact this
  have F2 : Hid (∀ w', Calls Tryz.prog 19 #[.int .u64 (r : Int)] w' (Makes r w')) := fun w' => by
    have := rFromUint_any (r : Int) (by omega) (by omega) w'
    rw [Int.toNat_natCast] at this
    exact this
  have G1 : Hid (∀ w' ao n ca, Num w' ao n ca a → Calls Tryz.prog 18 #[.slice ao n ca] w' fun e w2 => e = .returned (.string S1) ∧ Below w'.heap.size w' w2) := fun w' ao n ca h => by
    rw [hS1]; exact rFormat_num h (Nat.le_trans (rl_length 19 a (by omega)) (by omega))
  have G2 : Hid (∀ w' ao n ca, Num w' ao n ca r → Calls Tryz.prog 18 #[.slice ao n ca] w' fun e w2 => e = .returned (.string S2) ∧ Below w'.heap.size w' w2) := fun w' ao n ca h => by
    rw [hS2]; exact rFormat_num h (Nat.le_trans (rl_length 5 r (by omega)) (by omega))
  have sa : Hid (Sm a 3) := ⟨by simp [pw]; omega, by omega⟩
  have sr : Hid (Sm r 3) := ⟨by simp [pw]; omega, by omega⟩
  have HT : Hid (∀ w', Below w.heap.size w w' → Tab w' ∧ ErrV w') := fun w' b => ⟨htab.below b, hev.below b⟩
  have PA : Hid (∀ V w', V.size ≤ 1000 → Below w.heap.size w w' → Calls Tryz.prog 10 #[.string V] w' (FormRes (¬ pOk (pneg V.data.toList) (pbody V.data.toList)) (pqv V.data.toList) 512 w')) := fun V w' hV hb => qParse_v V w' hV (HT.out w' hb).2
  have PR : Hid (∀ V w', V.size ≤ 1000 → Calls Tryz.prog 17 #[.string V] w' (FormRes (¬ pOk (pneg V.data.toList) (pbody V.data.toList)) (pqv V.data.toList) 512 w')) := fun V w' hV => rqParse_v V w' hV
  clear htab hev h0 h1 hwn hwd hS1 hS2 hab hrb
  cases neg
  · have hVs : (S1 ++ ⟨#[46]⟩ ++ S2).size ≤ 40 := by rw [ByteArray.size_append, ByteArray.size_append, show (⟨#[46]⟩ : ByteArray).size = 1 from rfl]; omega
    have hV1 : 1 ≤ (S1 ++ ⟨#[46]⟩ ++ S2).size := by rw [ByteArray.size_append, ByteArray.size_append, show (⟨#[46]⟩ : ByteArray).size = 1 from rfl]; omega
    go_enter Tryz.func5, Tryz.ntmps5
    go_wp2_with fail
    refine (F1.out _).mono ?_; rintro e W1 ⟨a1, c1, rfl, f1, b1⟩
    have N1 := Num.of_fr f1 sa.out
    have B1 := Lib.hid b1
    clear f1 b1
    go_wp2_with fail
    refine (G1.out _ _ _ _ N1).mono ?_; rintro e W2 ⟨rfl, b2⟩
    have B2 := Lib.hid (B1.out.trans (b2.mono B1.out.size))
    clear b2 N1
    go_wp2_with fail
    refine (F2.out _).mono ?_; rintro e W3 ⟨a3, c3, rfl, f3, b3⟩
    have N3 := Num.of_fr f3 sr.out
    have B3 := Lib.hid (B2.out.trans (b3.mono B2.out.size))
    clear f3 b3
    go_wp2_with fail
    refine (G2.out _ _ _ _ N3).mono ?_; rintro e W4 ⟨rfl, b4⟩
    have B4 := Lib.hid (B3.out.trans (b4.mono B3.out.size))
    clear b4 N3
    go_wp2_with fail
    generalize hV : S1 ++ ⟨#[46]⟩ ++ S2 = V
    rw [hV] at hVs hV1
    clear hV hs1 hs2 F1 F2 G1 G2 sa sr
    refine (PA.out V W4 (by omega) B4.out).mono ?_; rintro e W5 ⟨s5, a5, n5, c5, o5, m5, d5, e5, rfl, cq5, he5, b5⟩
    have x5 := below_new W5 (.cells #[.bool s5, .slice a5 n5 c5, .slice o5 m5 d5] 25)
    have z5 := heap_alloc_new W5 (.cells #[.bool s5, .slice a5 n5 c5, .slice o5 m5 d5] 25)
    have B6 := (B4.out.trans (b5.mono B4.out.size)).trans (x5.mono (B4.out.trans (b5.mono B4.out.size)).size)
    have K5 := cq5.below x5
    obtain ⟨W6, hW6⟩ : ∃ W, W = W5.alloc (.cells #[.bool s5, .slice a5 n5 c5, .slice o5 m5 d5] 25) := ⟨_, rfl⟩
    rw [← hW6] at z5 B6 K5
    have hs6 : W6.heap.size = W5.heap.size + 1 := by rw [hW6]; exact World.size_alloc _ _
    have HS6 := Lib.hid hs6
    have Z5 := Lib.hid z5
    have HB6 := Lib.hid B6
    have HK5 := Lib.hid K5
    clear cq5 x5 z5 B6 K5 b5 hs6
    go_wp2_with fail
    rw [← hW6]
    clear hW6
    refine (PR.out V W6 (by omega)).mono ?_; rintro e W7 ⟨s7, a7, n7, c7, o7, m7, d7, e7, rfl, cq7, he7, b7⟩
    have x7 := below_new W7 (.cells #[.bool s7, .slice a7 n7 c7, .slice o7 m7 d7] 25)
    have z7 := heap_alloc_new W7 (.cells #[.bool s7, .slice a7 n7 c7, .slice o7 m7 d7] 25)
    have y7 := b7.trans (x7.mono b7.size)
    have z57 := (y7.block W5.heap.size (by have := HS6.out; omega)).trans Z5.out
    have B8 := HB6.out.trans (y7.mono HB6.out.size)
    have K5 := HK5.out.below y7
    have K7 := cq7.below x7
    obtain rfl : e5 = e7 := by
      rcases he5 with ⟨h1, h2⟩ | ⟨h1, h2⟩ <;> rcases he7 with ⟨h3, h4⟩ | ⟨h3, h4⟩
      · rw [h2, h4]
      · exact absurd h1 h3
      · exact absurd h3 h1
      · rw [h2, h4]
    have hcv := Lib.run_convert_string_bytes (P := Tryz.prog) (W7.alloc (.cells #[.bool s7, .slice a7 n7 c7, .slice o7 m7 d7] 25)) 9 41 5 V Tryz.underlying9 Tryz.underlying41 Tryz.underlying5
    obtain ⟨W8, hW8⟩ : ∃ W, W = W7.alloc (.cells #[.bool s7, .slice a7 n7 c7, .slice o7 m7 d7] 25) := ⟨_, rfl⟩
    rw [← hW8] at z57 z7 B8 K5 K7 hcv
    have hs8 : W8.heap.size = W7.heap.size + 1 := by rw [hW8]; exact World.size_alloc _ _
    have hcap := grownCap_ge W8 V.size 0 5
    have hmk := Bts.made W8 5 V
    have hfz : ∀ a, a < V.size → (Lib.bytesWorld W8 5 V).frozen? ⟨W8.heap.size, a, none⟩ = false := fun a ha => Bts.unfrozen W8 5 V ha
    have hbw := Lib.bytesWorld_below W8 5 V
    have hbs := Lib.bytesWorld_size W8 5 V
    obtain ⟨cp, hcp⟩ : ∃ c, c = grownCap W8 V.size 0 5 := ⟨_, rfl⟩
    obtain ⟨wB, hwB⟩ : ∃ x, x = Lib.bytesWorld W8 5 V := ⟨_, rfl⟩
    obtain ⟨g, hg⟩ : ∃ g, g = W8.heap.size := ⟨_, rfl⟩
    obtain ⟨n, hn⟩ : ∃ n, n = V.size := ⟨_, rfl⟩
    obtain ⟨L, hL⟩ : ∃ L, L = V.data.toList := ⟨_, rfl⟩
    have hLl : L.length = n := by rw [hL, hn]; exact size_list V
    rw [← hcp, ← hwB, ← hg, ← hn] at hcv
    rw [← hcp, ← hn] at hcap
    rw [← hwB, ← hg, ← hL] at hmk
    rw [← hwB, ← hg, ← hn] at hfz
    rw [← hwB, ← hg] at hbs
    rw [← hwB] at hbw
    rw [← hn] at hVs hV1
    have HZ5 := Lib.hid z57
    have HZ7 := Lib.hid z7
    have HB8 := Lib.hid B8
    have HK5 := Lib.hid K5
    have HK7 := Lib.hid K7
    have HFZ := Lib.hid hfz
    have HMK := Lib.hid hmk
    have HLL := Lib.hid hLl
    have HBW := Lib.hid hbw
    have HGS : Hid (g < wB.heap.size ∧ g = W8.heap.size ∧ W8.heap.size = W7.heap.size + 1 ∧ W5.heap.size < W7.heap.size) := ⟨by omega, hg, hs8, by have := HS6.out; have := b7.size; omega⟩
    have HN := Lib.hid hn
    have HWB := Lib.hid hwB
    have HcapI : (n : Int) ≤ (cp : Int) := by omega
    clear hcp hwB hg hL hfz hmk hLl hbs hbw hn z57 z7 B8 K5 K7 cq7 x7 y7 b7 he7 hs8
    go_upto_region 6 with fail
    rw [← hW8]
    clear hW8
    go_wp2_with fail
    refine (Fold_any at' n (by omega) (by omega) _ _ rfl).mono ?_; rintro e w' ⟨ix, rfl, hix, rfl⟩
    clear hcv
    have hca := HMK.out ix (by rw [HLL.out]; exact hix)
    have hfa := HFZ.out ix hix
    have hixI : (ix : Int) < (n : Int) := by omega
    have hix0 : (0 : Int) ≤ (ix : Int) := by omega
    have hst := HMK.out.set (show ix < L.length by rw [HLL.out]; exact hix) x
    have hl2 : (L.set ix x).length = n := by rw [List.length_set]; exact HLL.out
    obtain ⟨L2, hL2⟩ : ∃ l, l = L.set ix x := ⟨_, rfl⟩
    rw [← hL2] at hst hl2
    have BC : Below W8.heap.size W8 (wB.setCell ⟨g, ix, none⟩ (.int .u8 (x.toNat : Int))) := HBW.out.setCell (p := ⟨g, ix, none⟩) (by show W8.heap.size ≤ g; have := HGS.out; omega) _
    obtain ⟨wC, hwC⟩ : ∃ c, c = wB.setCell ⟨g, ix, none⟩ (.int .u8 (x.toNat : Int)) := ⟨_, rfl⟩
    rw [← hwC] at hst BC
    obtain ⟨X1, hX1⟩ : ∃ X : ByteArray, X = ⟨(L2.take n).toArray⟩ := ⟨_, rfl⟩
    have hXs : X1.size ≤ 40 := by rw [hX1]; show (L2.take n).toArray.size ≤ 40; rw [List.size_toArray, List.length_take]; omega
    have CV : Hid (∀ w', Below wC.heap.size wC w' → (convert 41 9 (.slice (some ⟨g, 0, none⟩) n cp)).run Tryz.prog w' = .ok (.string X1) w') := fun w' b => by
      rw [hX1]; exact (hst.keep b).text (by omega)
    have HBC := Lib.hid BC
    have HB9 := Lib.hid (HB8.out.trans (BC.mono HB8.out.size))
    have hcv1 := CV.out wC (Below.refl _ _)
    have HXS := Lib.hid hXs
    clear hst hl2 hL2 hX1 BC hXs
    go_upto_region 8 with fail
    rw [← hwC]
    clear hwC hca hfa hixI hix0
    go_wp2_with fail
    refine (PA.out X1 wC (by have := HXS.out; omega) HB9.out).mono ?_; rintro e W9 ⟨s9, a9, n9, c9, o9, m9, d9, e9, rfl, cq9, he9, b9⟩
    have x9 := below_new W9 (.cells #[.bool s9, .slice a9 n9 c9, .slice o9 m9 d9] 25)
    have z9 := heap_alloc_new W9 (.cells #[.bool s9, .slice a9 n9 c9, .slice o9 m9 d9] 25)
    have y9 := b9.trans (x9.mono b9.size)
    have K9 := cq9.below x9
    obtain ⟨W10, hW10⟩ : ∃ W, W = W9.alloc (.cells #[.bool s9, .slice a9 n9 c9, .slice o9 m9 d9] 25) := ⟨_, rfl⟩
    rw [← hW10] at z9 y9 K9
    have hs10 : W10.heap.size = W9.heap.size + 1 := by rw [hW10]; exact World.size_alloc _ _
    have hcv2 := CV.out W10 y9
    have HZ9 := Lib.hid z9
    have HY9 := Lib.hid y9
    have HK9 := Lib.hid K9
    have HS10 : Hid (W10.heap.size = W9.heap.size + 1 ∧ wC.heap.size ≤ W9.heap.size) := ⟨hs10, b9.size⟩
    clear cq9 x9 z9 y9 K9 b9 hs10 hcv1
    go_upto_region 9 with fail
    rw [← hW10]
    clear hW10
    go_wp2_with fail
    refine (PR.out X1 W10 (by have := HXS.out; omega)).mono ?_; rintro e W11 ⟨s11, a11, n11, c11, o11, m11, d11, e11, rfl, cq11, he11, b11⟩
    have x11 := below_new W11 (.cells #[.bool s11, .slice a11 n11 c11, .slice o11 m11 d11] 25)
    have z11 := heap_alloc_new W11 (.cells #[.bool s11, .slice a11 n11 c11, .slice o11 m11 d11] 25)
    have y11 := b11.trans (x11.mono b11.size)
    obtain rfl : e9 = e11 := by
      rcases he9 with ⟨h1, h2⟩ | ⟨h1, h2⟩ <;> rcases he11 with ⟨h3, h4⟩ | ⟨h3, h4⟩
      · rw [h2, h4]
      · exact absurd h1 h3
      · exact absurd h3 h1
      · rw [h2, h4]
    have yC := HY9.out.trans (y11.mono HY9.out.size)
    have y8 := HBC.out.trans (yC.mono HBC.out.size)
    have K5 := HK5.out.below y8
    have K7 := HK7.out.below y8
    have K9 := HK9.out.below y11
    have K11 := cq11.below x11
    have q5 := (y8.block W5.heap.size (by have := HGS.out; omega)).trans HZ5.out
    have q7 := (y8.block W7.heap.size (by have := HGS.out; omega)).trans HZ7.out
    have q9 := (y11.block W9.heap.size (by have := HS10.out; omega)).trans HZ9.out
    have B12 := HB9.out.trans (yC.mono HB9.out.size)
    obtain ⟨W12, hW12⟩ : ∃ W, W = W11.alloc (.cells #[.bool s11, .slice a11 n11 c11, .slice o11 m11 d11] 25) := ⟨_, rfl⟩
    rw [← hW12] at z11 q5 q7 q9 K5 K7 K9 K11 B12
    obtain ⟨p0, p1, p2, _⟩ := at_block q5
    obtain ⟨r0, r1, r2, _⟩ := at_block q7
    obtain ⟨u0, u1, u2, _⟩ := at_block q9
    obtain ⟨v0, v1, v2, _⟩ := at_block z11
    have SM1 := Lib.hid (Same_q K5 K7 rfl)
    have SM2 : Hid (∀ w', Below W12.heap.size W12 w' → Calls Tryz.prog 15 #[.agg #[.bool s9, .slice a9 n9 c9, .slice o9 m9 d9], .agg #[.bool s11, .slice a11 n11 c11, .slice o11 m11 d11]] w' fun e w2 => e = .returned (.bool true) ∧ Below w'.heap.size w' w2) := fun w' hb => Same_q (K9.below hb) (K11.below hb) rfl
    have KC : Hid (∀ w', Below W12.heap.size W12 w' → w'.cell? ⟨W9.heap.size, 0, none⟩ = some (.bool s9) ∧ w'.cell? ⟨W9.heap.size, 1, none⟩ = some (.slice a9 n9 c9) ∧ w'.cell? ⟨W9.heap.size, 2, none⟩ = some (.slice o9 m9 d9) ∧ w'.cell? ⟨W11.heap.size, 0, none⟩ = some (.bool s11) ∧ w'.cell? ⟨W11.heap.size, 1, none⟩ = some (.slice a11 n11 c11) ∧ w'.cell? ⟨W11.heap.size, 2, none⟩ = some (.slice o11 m11 d11)) := fun w' hb =>
      ⟨(hb.cell (World.block_lt_of_cell? _ _ u0)).trans u0, (hb.cell (World.block_lt_of_cell? _ _ u1)).trans u1, (hb.cell (World.block_lt_of_cell? _ _ u2)).trans u2, (hb.cell (World.block_lt_of_cell? _ _ v0)).trans v0, (hb.cell (World.block_lt_of_cell? _ _ v1)).trans v1, (hb.cell (World.block_lt_of_cell? _ _ v2)).trans v2⟩
    have HB12 := Lib.hid B12
    clear q5 q7 q9 z11 K5 K7 K9 K11 B12 y8 yC y11 cq11 x11 b11 he9 he11 hcv2 u0 u1 u2 v0 v1 v2
    go_upto_region 10 with fail
    rw [← hW12]
    clear hW12
    go_wp2_with fail
    refine SM1.out.mono ?_; rintro e W13 ⟨rfl, b13⟩
    have B13 := Lib.hid b13
    have HB13 := Lib.hid (HB12.out.trans (b13.mono HB12.out.size))
    obtain ⟨u0, u1, u2, v0, v1, v2⟩ := KC.out W13 b13
    clear b13 p0 p1 p2 r0 r1 r2
    go_wp2_with fail
    refine (SM2.out W13 B13.out).mono ?_; rintro e W14 ⟨rfl, b14⟩
    have HB14 := Lib.hid (HB13.out.trans (b14.mono HB13.out.size))
    clear b14 u0 u1 u2 v0 v1 v2
    go_wp2_with fail
    refine (awake2_any W14 (HT.out W14 HB14.out).1).mono ?_; rintro e W15 ⟨rfl, b15⟩
    have HB15 := Lib.hid (HB14.out.trans (b15.mono HB14.out.size))
    clear b15
    go_wp2_with fail
    go_ret
    exact ⟨rfl, HB15.out⟩
  · have hVs : (⟨#[45]⟩ ++ (S1 ++ ⟨#[46]⟩ ++ S2)).size ≤ 40 := by rw [ByteArray.size_append, ByteArray.size_append, ByteArray.size_append, show (⟨#[46]⟩ : ByteArray).size = 1 from rfl, show (⟨#[45]⟩ : ByteArray).size = 1 from rfl]; omega
    have hV1 : 1 ≤ (⟨#[45]⟩ ++ (S1 ++ ⟨#[46]⟩ ++ S2)).size := by rw [ByteArray.size_append, ByteArray.size_append, ByteArray.size_append, show (⟨#[46]⟩ : ByteArray).size = 1 from rfl, show (⟨#[45]⟩ : ByteArray).size = 1 from rfl]; omega
    go_enter Tryz.func5, Tryz.ntmps5
    go_wp2_with fail
    refine (F1.out _).mono ?_; rintro e W1 ⟨a1, c1, rfl, f1, b1⟩
    have N1 := Num.of_fr f1 sa.out
    have B1 := Lib.hid b1
    clear f1 b1
    go_wp2_with fail
    refine (G1.out _ _ _ _ N1).mono ?_; rintro e W2 ⟨rfl, b2⟩
    have B2 := Lib.hid (B1.out.trans (b2.mono B1.out.size))
    clear b2 N1
    go_wp2_with fail
    refine (F2.out _).mono ?_; rintro e W3 ⟨a3, c3, rfl, f3, b3⟩
    have N3 := Num.of_fr f3 sr.out
    have B3 := Lib.hid (B2.out.trans (b3.mono B2.out.size))
    clear f3 b3
    go_wp2_with fail
    refine (G2.out _ _ _ _ N3).mono ?_; rintro e W4 ⟨rfl, b4⟩
    have B4 := Lib.hid (B3.out.trans (b4.mono B3.out.size))
    clear b4 N3
    go_wp2_with fail
    generalize hV : ⟨#[45]⟩ ++ (S1 ++ ⟨#[46]⟩ ++ S2) = V
    rw [hV] at hVs hV1
    clear hV hs1 hs2 F1 F2 G1 G2 sa sr
    refine (PA.out V W4 (by omega) B4.out).mono ?_; rintro e W5 ⟨s5, a5, n5, c5, o5, m5, d5, e5, rfl, cq5, he5, b5⟩
    have x5 := below_new W5 (.cells #[.bool s5, .slice a5 n5 c5, .slice o5 m5 d5] 25)
    have z5 := heap_alloc_new W5 (.cells #[.bool s5, .slice a5 n5 c5, .slice o5 m5 d5] 25)
    have B6 := (B4.out.trans (b5.mono B4.out.size)).trans (x5.mono (B4.out.trans (b5.mono B4.out.size)).size)
    have K5 := cq5.below x5
    obtain ⟨W6, hW6⟩ : ∃ W, W = W5.alloc (.cells #[.bool s5, .slice a5 n5 c5, .slice o5 m5 d5] 25) := ⟨_, rfl⟩
    rw [← hW6] at z5 B6 K5
    have hs6 : W6.heap.size = W5.heap.size + 1 := by rw [hW6]; exact World.size_alloc _ _
    have HS6 := Lib.hid hs6
    have Z5 := Lib.hid z5
    have HB6 := Lib.hid B6
    have HK5 := Lib.hid K5
    clear cq5 x5 z5 B6 K5 b5 hs6
    go_wp2_with fail
    rw [← hW6]
    clear hW6
    refine (PR.out V W6 (by omega)).mono ?_; rintro e W7 ⟨s7, a7, n7, c7, o7, m7, d7, e7, rfl, cq7, he7, b7⟩
    have x7 := below_new W7 (.cells #[.bool s7, .slice a7 n7 c7, .slice o7 m7 d7] 25)
    have z7 := heap_alloc_new W7 (.cells #[.bool s7, .slice a7 n7 c7, .slice o7 m7 d7] 25)
    have y7 := b7.trans (x7.mono b7.size)
    have z57 := (y7.block W5.heap.size (by have := HS6.out; omega)).trans Z5.out
    have B8 := HB6.out.trans (y7.mono HB6.out.size)
    have K5 := HK5.out.below y7
    have K7 := cq7.below x7
    obtain rfl : e5 = e7 := by
      rcases he5 with ⟨h1, h2⟩ | ⟨h1, h2⟩ <;> rcases he7 with ⟨h3, h4⟩ | ⟨h3, h4⟩
      · rw [h2, h4]
      · exact absurd h1 h3
      · exact absurd h3 h1
      · rw [h2, h4]
    have hcv := Lib.run_convert_string_bytes (P := Tryz.prog) (W7.alloc (.cells #[.bool s7, .slice a7 n7 c7, .slice o7 m7 d7] 25)) 9 41 5 V Tryz.underlying9 Tryz.underlying41 Tryz.underlying5
    obtain ⟨W8, hW8⟩ : ∃ W, W = W7.alloc (.cells #[.bool s7, .slice a7 n7 c7, .slice o7 m7 d7] 25) := ⟨_, rfl⟩
    rw [← hW8] at z57 z7 B8 K5 K7 hcv
    have hs8 : W8.heap.size = W7.heap.size + 1 := by rw [hW8]; exact World.size_alloc _ _
    have hcap := grownCap_ge W8 V.size 0 5
    have hmk := Bts.made W8 5 V
    have hfz : ∀ a, a < V.size → (Lib.bytesWorld W8 5 V).frozen? ⟨W8.heap.size, a, none⟩ = false := fun a ha => Bts.unfrozen W8 5 V ha
    have hbw := Lib.bytesWorld_below W8 5 V
    have hbs := Lib.bytesWorld_size W8 5 V
    obtain ⟨cp, hcp⟩ : ∃ c, c = grownCap W8 V.size 0 5 := ⟨_, rfl⟩
    obtain ⟨wB, hwB⟩ : ∃ x, x = Lib.bytesWorld W8 5 V := ⟨_, rfl⟩
    obtain ⟨g, hg⟩ : ∃ g, g = W8.heap.size := ⟨_, rfl⟩
    obtain ⟨n, hn⟩ : ∃ n, n = V.size := ⟨_, rfl⟩
    obtain ⟨L, hL⟩ : ∃ L, L = V.data.toList := ⟨_, rfl⟩
    have hLl : L.length = n := by rw [hL, hn]; exact size_list V
    rw [← hcp, ← hwB, ← hg, ← hn] at hcv
    rw [← hcp, ← hn] at hcap
    rw [← hwB, ← hg, ← hL] at hmk
    rw [← hwB, ← hg, ← hn] at hfz
    rw [← hwB, ← hg] at hbs
    rw [← hwB] at hbw
    rw [← hn] at hVs hV1
    have HZ5 := Lib.hid z57
    have HZ7 := Lib.hid z7
    have HB8 := Lib.hid B8
    have HK5 := Lib.hid K5
    have HK7 := Lib.hid K7
    have HFZ := Lib.hid hfz
    have HMK := Lib.hid hmk
    have HLL := Lib.hid hLl
    have HBW := Lib.hid hbw
    have HGS : Hid (g < wB.heap.size ∧ g = W8.heap.size ∧ W8.heap.size = W7.heap.size + 1 ∧ W5.heap.size < W7.heap.size) := ⟨by omega, hg, hs8, by have := HS6.out; have := b7.size; omega⟩
    have HN := Lib.hid hn
    have HWB := Lib.hid hwB
    have HcapI : (n : Int) ≤ (cp : Int) := by omega
    clear hcp hwB hg hL hfz hmk hLl hbs hbw hn z57 z7 B8 K5 K7 cq7 x7 y7 b7 he7 hs8
    go_upto_region 6 with fail
    rw [← hW8]
    clear hW8
    go_wp2_with fail
    refine (Fold_any at' n (by omega) (by omega) _ _ rfl).mono ?_; rintro e w' ⟨ix, rfl, hix, rfl⟩
    clear hcv
    have hca := HMK.out ix (by rw [HLL.out]; exact hix)
    have hfa := HFZ.out ix hix
    have hixI : (ix : Int) < (n : Int) := by omega
    have hix0 : (0 : Int) ≤ (ix : Int) := by omega
    have hst := HMK.out.set (show ix < L.length by rw [HLL.out]; exact hix) x
    have hl2 : (L.set ix x).length = n := by rw [List.length_set]; exact HLL.out
    obtain ⟨L2, hL2⟩ : ∃ l, l = L.set ix x := ⟨_, rfl⟩
    rw [← hL2] at hst hl2
    have BC : Below W8.heap.size W8 (wB.setCell ⟨g, ix, none⟩ (.int .u8 (x.toNat : Int))) := HBW.out.setCell (p := ⟨g, ix, none⟩) (by show W8.heap.size ≤ g; have := HGS.out; omega) _
    obtain ⟨wC, hwC⟩ : ∃ c, c = wB.setCell ⟨g, ix, none⟩ (.int .u8 (x.toNat : Int)) := ⟨_, rfl⟩
    rw [← hwC] at hst BC
    obtain ⟨X1, hX1⟩ : ∃ X : ByteArray, X = ⟨(L2.take n).toArray⟩ := ⟨_, rfl⟩
    have hXs : X1.size ≤ 40 := by rw [hX1]; show (L2.take n).toArray.size ≤ 40; rw [List.size_toArray, List.length_take]; omega
    have CV : Hid (∀ w', Below wC.heap.size wC w' → (convert 41 9 (.slice (some ⟨g, 0, none⟩) n cp)).run Tryz.prog w' = .ok (.string X1) w') := fun w' b => by
      rw [hX1]; exact (hst.keep b).text (by omega)
    have HBC := Lib.hid BC
    have HB9 := Lib.hid (HB8.out.trans (BC.mono HB8.out.size))
    have hcv1 := CV.out wC (Below.refl _ _)
    have HXS := Lib.hid hXs
    clear hst hl2 hL2 hX1 BC hXs
    go_upto_region 8 with fail
    rw [← hwC]
    clear hwC hca hfa hixI hix0
    go_wp2_with fail
    refine (PA.out X1 wC (by have := HXS.out; omega) HB9.out).mono ?_; rintro e W9 ⟨s9, a9, n9, c9, o9, m9, d9, e9, rfl, cq9, he9, b9⟩
    have x9 := below_new W9 (.cells #[.bool s9, .slice a9 n9 c9, .slice o9 m9 d9] 25)
    have z9 := heap_alloc_new W9 (.cells #[.bool s9, .slice a9 n9 c9, .slice o9 m9 d9] 25)
    have y9 := b9.trans (x9.mono b9.size)
    have K9 := cq9.below x9
    obtain ⟨W10, hW10⟩ : ∃ W, W = W9.alloc (.cells #[.bool s9, .slice a9 n9 c9, .slice o9 m9 d9] 25) := ⟨_, rfl⟩
    rw [← hW10] at z9 y9 K9
    have hs10 : W10.heap.size = W9.heap.size + 1 := by rw [hW10]; exact World.size_alloc _ _
    have hcv2 := CV.out W10 y9
    have HZ9 := Lib.hid z9
    have HY9 := Lib.hid y9
    have HK9 := Lib.hid K9
    have HS10 : Hid (W10.heap.size = W9.heap.size + 1 ∧ wC.heap.size ≤ W9.heap.size) := ⟨hs10, b9.size⟩
    clear cq9 x9 z9 y9 K9 b9 hs10 hcv1
    go_upto_region 9 with fail
    rw [← hW10]
    clear hW10
    go_wp2_with fail
    refine (PR.out X1 W10 (by have := HXS.out; omega)).mono ?_; rintro e W11 ⟨s11, a11, n11, c11, o11, m11, d11, e11, rfl, cq11, he11, b11⟩
    have x11 := below_new W11 (.cells #[.bool s11, .slice a11 n11 c11, .slice o11 m11 d11] 25)
    have z11 := heap_alloc_new W11 (.cells #[.bool s11, .slice a11 n11 c11, .slice o11 m11 d11] 25)
    have y11 := b11.trans (x11.mono b11.size)
    obtain rfl : e9 = e11 := by
      rcases he9 with ⟨h1, h2⟩ | ⟨h1, h2⟩ <;> rcases he11 with ⟨h3, h4⟩ | ⟨h3, h4⟩
      · rw [h2, h4]
      · exact absurd h1 h3
      · exact absurd h3 h1
      · rw [h2, h4]
    have yC := HY9.out.trans (y11.mono HY9.out.size)
    have y8 := HBC.out.trans (yC.mono HBC.out.size)
    have K5 := HK5.out.below y8
    have K7 := HK7.out.below y8
    have K9 := HK9.out.below y11
    have K11 := cq11.below x11
    have q5 := (y8.block W5.heap.size (by have := HGS.out; omega)).trans HZ5.out
    have q7 := (y8.block W7.heap.size (by have := HGS.out; omega)).trans HZ7.out
    have q9 := (y11.block W9.heap.size (by have := HS10.out; omega)).trans HZ9.out
    have B12 := HB9.out.trans (yC.mono HB9.out.size)
    obtain ⟨W12, hW12⟩ : ∃ W, W = W11.alloc (.cells #[.bool s11, .slice a11 n11 c11, .slice o11 m11 d11] 25) := ⟨_, rfl⟩
    rw [← hW12] at z11 q5 q7 q9 K5 K7 K9 K11 B12
    obtain ⟨p0, p1, p2, _⟩ := at_block q5
    obtain ⟨r0, r1, r2, _⟩ := at_block q7
    obtain ⟨u0, u1, u2, _⟩ := at_block q9
    obtain ⟨v0, v1, v2, _⟩ := at_block z11
    have SM1 := Lib.hid (Same_q K5 K7 rfl)
    have SM2 : Hid (∀ w', Below W12.heap.size W12 w' → Calls Tryz.prog 15 #[.agg #[.bool s9, .slice a9 n9 c9, .slice o9 m9 d9], .agg #[.bool s11, .slice a11 n11 c11, .slice o11 m11 d11]] w' fun e w2 => e = .returned (.bool true) ∧ Below w'.heap.size w' w2) := fun w' hb => Same_q (K9.below hb) (K11.below hb) rfl
    have KC : Hid (∀ w', Below W12.heap.size W12 w' → w'.cell? ⟨W9.heap.size, 0, none⟩ = some (.bool s9) ∧ w'.cell? ⟨W9.heap.size, 1, none⟩ = some (.slice a9 n9 c9) ∧ w'.cell? ⟨W9.heap.size, 2, none⟩ = some (.slice o9 m9 d9) ∧ w'.cell? ⟨W11.heap.size, 0, none⟩ = some (.bool s11) ∧ w'.cell? ⟨W11.heap.size, 1, none⟩ = some (.slice a11 n11 c11) ∧ w'.cell? ⟨W11.heap.size, 2, none⟩ = some (.slice o11 m11 d11)) := fun w' hb =>
      ⟨(hb.cell (World.block_lt_of_cell? _ _ u0)).trans u0, (hb.cell (World.block_lt_of_cell? _ _ u1)).trans u1, (hb.cell (World.block_lt_of_cell? _ _ u2)).trans u2, (hb.cell (World.block_lt_of_cell? _ _ v0)).trans v0, (hb.cell (World.block_lt_of_cell? _ _ v1)).trans v1, (hb.cell (World.block_lt_of_cell? _ _ v2)).trans v2⟩
    have HB12 := Lib.hid B12
    clear q5 q7 q9 z11 K5 K7 K9 K11 B12 y8 yC y11 cq11 x11 b11 he9 he11 hcv2 u0 u1 u2 v0 v1 v2
    go_upto_region 10 with fail
    rw [← hW12]
    clear hW12
    go_wp2_with fail
    refine SM1.out.mono ?_; rintro e W13 ⟨rfl, b13⟩
    have B13 := Lib.hid b13
    have HB13 := Lib.hid (HB12.out.trans (b13.mono HB12.out.size))
    obtain ⟨u0, u1, u2, v0, v1, v2⟩ := KC.out W13 b13
    clear b13 p0 p1 p2 r0 r1 r2
    go_wp2_with fail
    refine (SM2.out W13 B13.out).mono ?_; rintro e W14 ⟨rfl, b14⟩
    have HB14 := Lib.hid (HB13.out.trans (b14.mono HB13.out.size))
    clear b14 u0 u1 u2 v0 v1 v2
    go_wp2_with fail
    refine (awake2_any W14 (HT.out W14 HB14.out).1).mono ?_; rintro e W15 ⟨rfl, b15⟩
    have HB15 := Lib.hid (HB14.out.trans (b15.mono HB14.out.size))
    clear b15
    go_wp2_with fail
    go_ret
    exact ⟨rfl, HB15.out⟩
end Go.Proofs.YtjijnngblhddkaaGreatDoor
