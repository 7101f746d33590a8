import Derived.Test.YtkedgkfdmdlhoaaDoorPmE
import Derived.Test.YtkedgkfdmdlhoaaDoorPmD
import Derived.Test.YtkedgkfdmdlhoaaDoorPmC
import Derived.Test.YtkedgkfdmdlhoaaDoorPrd9
/- ProductCatalogs for all inputs: ValidateCatalog and Find of the code against the reference's. -/
namespace Go.Proofs.YtkedgkfdmdlhoaaDoor.P9
open Go.RowKit Go.Sort C6

theorem gb_bel {w w1 w2 : World} {B : Nat} (h5 : Below w.heap.size w w1) (hg : w1.grownBy w2 (some B)) (hB : w.heap.size ≤ B) : Below w.heap.size w w2 :=
  ⟨hg.os.trans h5.os, hg.tape.trans h5.tape, hg.output.trans h5.output, Nat.le_trans h5.size hg.size, fun k hk => (hg.block k (Nat.lt_of_lt_of_le hk h5.size) (fun e => by have := Option.some.inj e; omega)).trans (h5.block k hk)⟩
theorem own_far {w : World} {M n c k : Nat} {e : TypeId} {a : Option Addr} {xs : List Value} {B : Nat} (h : w.ownsRow M e k (.slice a n c) n xs) (hB : B < M) : (Value.slice a n c).ownBlock = none ∨ (Value.slice a n c).ownBlock ≠ some B := row_ne h hB

set_option maxHeartbeats 16000000 in
set_option maxRecDepth 100000 in
theorem ProductCatalogs_any (ao1 : Option Addr) (ts : List Int) (cap1 : Nat) (w : World) (ht : RdZ w ao1 cap1 ts) (hev : ErrV w) :
    Calls Tryd.prog 4 #[.slice ao1 ts.length cap1] w fun e w' => e = .returned (.bool true) ∧ Below w.heap.size w w' := by
  obtain ⟨n1, hn1⟩ : ∃ n, n = ts.length := ⟨_, rfl⟩
  obtain ⟨B, hB⟩ : ∃ B, B = w.heap.size := ⟨_, rfl⟩
  obtain ⟨W1, hW1⟩ : ∃ W, W = w.alloc (.cells #[.slice ao1 n1 cap1, .int .i64 0] 31) := ⟨_, rfl⟩
  have b1 : Below w.heap.size w W1 := by rw [hW1]; exact below_new _ _
  have s1 : W1.heap.size = w.heap.size + 1 := by rw [hW1]; exact World.size_alloc _ _
  have T1 : Tap W1 B ao1 ts.length cap1 0 := by rw [hW1, hB, ← hn1]; exact Tap.new w ao1 n1 cap1
  have R1 := ht.below b1
  have RTL : 0 < (intz ts).length → ∀ b o, ao1 = some ⟨b, o, none⟩ → b < B := fun h0 b o e => by have := ht.lt h0 b o e; omega
  have CT := Lib.hid (Catalog_v B ao1 cap1 ts 0 W1 T1 R1 RTL (by omega))
  have HRT : Hid (∀ W, W1.grownBy W (some B) → RdZ W ao1 cap1 ts) := fun W h => R1.keep RTL (gb_below h (Nat.le_of_lt T1.lt))
  have HTL := Lib.hid RTL
  have HEV := Lib.hid (fun (W : World) (h : Below w.heap.size w W) => hev.below h)
  have HB1 := Lib.hid b1
  have HG : Hid (B = w.heap.size ∧ W1.heap.size = B + 1) := ⟨hB, by omega⟩
  have HNT := Lib.hid hn1
  rw [← hn1]
  clear ht hev b1 T1 R1 RTL hn1
  go_enter Tryd.func4, Tryd.ntmps4
  go_wp2_with fail
  rw [← hW1]
  try rw [← hB]
  clear hW1 hB s1
  refine CT.out.mono ?_; rintro e w2 ⟨us, a, c, j, rfl, hl6, hj, hm⟩
  obtain ⟨n, hn⟩ : ∃ n, n = us.length := ⟨_, rfl⟩
  rw [← hn] at hm hl6 ⊢
  have HM := Lib.hid hm
  have HL : Hid (us.length = n ∧ n ≤ 6 ∧ j ≤ 200) := ⟨hn.symm, hl6, hj⟩
  have HB2 : Hid (Below w.heap.size w w2) := gb_bel HB1.out hm.gb (by have := HG.out; omega)
  have hcap : n ≤ 6 := hl6
  clear hm hj hn hl6 CT
  by_cases hn0 : n = 0
  · subst hn0
    obtain ⟨W9, rfl⟩ : ∃ W9, W9 = w2 := ⟨_, rfl⟩
    have HR9 : Hid (RdP W9 a c us) := rdP_of HL.out.1 HM.out.own (fun u hu => (HM.out.its u hu).ok)
    have HB9 : Hid (Below w.heap.size w W9) := HB2.out
    have HN9 : Hid (us.length = 0) := HL.out.1
    go_wp2_with fail
    go_loopw [41] (fun s41 wr => ∃ k : Nat, k ≤ 7 ∧ s41 = .int .i64 (k : Int) ∧ Hid (Below W9.heap.size W9 wr)) (fun s41 _ => 7 - (intOf s41).toNat)
    case atStart => exact ⟨0, by omega, rfl, Below.refl _ _⟩
    case round =>
      obtain ⟨k, hk7, rfl, hbl⟩ := hrel
      by_cases hlt : k < 7
      · have hlt2 : (k : Int) < 7 := by omega
        have IDC : Hid (∀ W, Calls Tryd.prog 13 #[.int .i64 (k : Int)] W fun e w' => e = .returned (.string (idB k)) ∧ Below W.heap.size W w') := fun W => ID_v k (by omega) (k : Int) rfl W
        obtain ⟨s, hs⟩ : ∃ s, s = idB k := ⟨_, rfl⟩
        rw [← hs] at IDC
        have FC : Hid (∀ W, Below W9.heap.size W9 W → Calls Tryd.prog 14 #[.slice a 0 c, .string s] W (FPost us s W)) := fun W h => by
          have := Find_v a c us s W (HR9.out.below h)
          rw [HN9.out] at this
          exact this
        have FR : Hid (∀ W, Below W9.heap.size W9 W → Calls Tryd.prog 15 #[.slice a 0 c, .string s] W (FPost us s W)) := fun W h => by
          have := rFind_v a c us s W (HR9.out.below h)
          rw [HN9.out] at this
          exact this
        clear hs
        go_wp2_with fail
        refine (IDC.out wr).mono ?_; rintro e v1 ⟨rfl, b1⟩
        have B1 := Lib.hid (keep hbl.out b1)
        clear b1
        go_wp2_with fail
        refine (FC.out v1 B1.out).mono ?_; rintro e v2 ⟨u, b, a2, c2, hf, rfl, hrd, b2⟩
        have HF := Lib.hid hf
        obtain ⟨m, hm⟩ : ∃ m, m = u.l.length := ⟨_, rfl⟩
        have HM := Lib.hid hm
        obtain ⟨V3, hV3⟩ : ∃ W, W = v2.alloc (.cells #[.string u.p.id, .string u.p.co, .string u.p.br, .int .i64 u.p.d, .int .i64 u.p.c, .int .i64 u.p.a, .slice a2 m c2] 26) := ⟨_, rfl⟩
        obtain ⟨g3, hg3⟩ : ∃ g, g = v2.heap.size := ⟨_, rfl⟩
        have b3 : Below v2.heap.size v2 V3 := by rw [hV3]; exact below_new _ _
        have P3 : Hid (PB V3 g3 u.p (.slice a2 m c2)) := by rw [hV3, hg3]; exact PB.new _ _ _
        have R3 := Lib.hid (hrd.below b3)
        have B3 := Lib.hid (keep (keep B1.out b2) b3)
        rw [← hm]
        clear hf hrd b2 b3 hm
        go_upto_region 14 with fail
        rw [← hV3]
        try rw [← hg3]
        clear hV3 hg3
        go_wp2_with fail
        refine (IDC.out V3).mono ?_; rintro e v4 ⟨rfl, b4⟩
        have B4 := Lib.hid (keep B3.out b4)
        have P4 := Lib.hid (P3.out.below b4)
        have R4 := Lib.hid (R3.out.below b4)
        clear b4
        go_wp2_with fail
        refine (FR.out v4 B4.out).mono ?_; rintro e v5 ⟨u', b', a5, c5, hf, rfl, hrd, b5⟩
        have hff := HF.out.symm.trans hf
        obtain ⟨rfl, rfl⟩ := Prod.mk.inj hff
        obtain ⟨V6, hV6⟩ : ∃ W, W = v5.alloc (.cells #[.string u.p.id, .string u.p.co, .string u.p.br, .int .i64 u.p.d, .int .i64 u.p.c, .int .i64 u.p.a, .slice a5 m c5] 26) := ⟨_, rfl⟩
        obtain ⟨g6, hg6⟩ : ∃ g, g = v5.heap.size := ⟨_, rfl⟩
        have b6 : Below v5.heap.size v5 V6 := by rw [hV6]; exact below_new _ _
        have P6 : Hid (PB V6 g6 u.p (.slice a5 m c5)) := by rw [hV6, hg6]; exact PB.new _ _ _
        have B6 := Lib.hid (keep (keep B4.out b5) b6)
        have P36 : Hid (PB V6 g3 u.p (.slice a2 m c2)) := (P4.out.below b5).below b6
        have SM := Lib.hid (by have := Same_v u.p a2 a5 c2 c5 u.l V6 ((R4.out.below b5).below b6) (hrd.below b6); rw [← HM.out] at this; exact this)
        rw [← HM.out]
        clear hf hff hrd b5 b6
        go_upto_region 15 with fail
        rw [← hV6]
        try rw [← hg6]
        clear hV6 hg6
        obtain ⟨k0, k1, k2, k3, k4, k5, k6⟩ := P36.out.cells
        obtain ⟨l0, l1, l2, l3, l4, l5, l6⟩ := P6.out.cells
        have hbb : (b != b) = false := bne_self_eq_false b
        obtain ⟨pi, pc, pb, pd, pe, pa, hp1, hp2, hp3, hp4, hp5, hp6⟩ : ∃ pi pc pb pd pe pa, pi = u.p.id ∧ pc = u.p.co ∧ pb = u.p.br ∧ pd = u.p.d ∧ pe = u.p.c ∧ pa = u.p.a := ⟨_, _, _, _, _, _, rfl, rfl, rfl, rfl, rfl, rfl⟩
        rw [← hp1, ← hp2, ← hp3, ← hp4, ← hp5, ← hp6] at SM
        rw [← hp1] at k0 l0
        rw [← hp2] at k1 l1
        rw [← hp3] at k2 l2
        rw [← hp4] at k3 l3
        rw [← hp5] at k4 l4
        rw [← hp6] at k5 l5
        clear hp1 hp2 hp3 hp4 hp5 hp6
        cases b <;>
        · go_wp2_with fail
          refine SM.out.mono ?_; rintro e v7 ⟨rfl, b7⟩
          have B7 := Lib.hid (keep B6.out b7)
          clear b7 k0 k1 k2 k3 k4 k5 k6 l0 l1 l2 l3 l4 l5 l6
          go_wp2_with fail
          go_roundw
          case rel => exact ⟨k + 1, by omega, by go_num, B7⟩
          case measure => simp [intOf]; omega
      · obtain rfl : k = 7 := by omega
        have hlt2 : ¬ ((7 : Nat) : Int) < 7 := by omega
        have VC := Lib.hid (by have := ValidateCatalog_v a c us wr (HR9.out.below hbl.out) (HEV.out wr (keep HB9.out hbl.out)); rw [HN9.out] at this; exact this)
        obtain ⟨x, hx⟩ : ∃ x, x = cerr us := ⟨_, rfl⟩
        have RC : Hid (∀ W, Below W9.heap.size W9 W → Calls Tryd.prog 18 #[.slice a 0 c] W fun e w' => e = .returned (.int .i64 x) ∧ Below W.heap.size W w') := fun W h => by
          have := rValidateCatalog_v a c us W (HR9.out.below h)
          rw [HN9.out, ← hx] at this
          exact this
        rw [← hx] at VC
        clear hx
        go_wp2_with fail
        refine VC.out.mono ?_; rintro e v1 ⟨rfl, b1⟩
        have B1 := Lib.hid (keep hbl.out b1)
        clear b1
        go_wp2_with fail
        refine (RC.out v1 B1.out).mono ?_; rintro e v2 ⟨rfl, b2⟩
        have B2 := Lib.hid (keep B1.out b2)
        clear b2
        go_wp2_with fail
        refine (awake_v v2).mono ?_; rintro e v3 ⟨rfl, b3⟩
        have HBF : Hid (Below w.heap.size w v3) := keep HB9.out (keep B2.out b3)
        clear b3
        go_wp2_with fail
        go_ret
        exact ⟨rfl, HBF.out⟩
  have hnp : (0 : Int) < (n : Int) := by omega
  have hn1 : 1 ≤ n := by omega
  have NX1 := Lib.hid (Next_v B ao1 cap1 ts j n w2 HM.out.tap (HRT.out w2 HM.out.gb) (by have := HL.out; omega) hn1 (by omega) (n : Int) rfl)
  go_wp2_with fail
  refine NX1.out.mono ?_; rintro e w3 ⟨r, rfl, hrn, hg3, hz3, ht3⟩
  have G3 := Lib.hid (gb_trans HM.out.gb hg3)
  have O3 : Hid (w3.ownsRow W1.heap.size 26 7 (.slice a n c) n (ptv us)) := HM.out.own.kept hg3 (own_far HM.out.own (by have := HG.out; omega))
  have I3 : Hid (∀ u ∈ us, ItA w3 W1.heap.size u) := fun u hu => ⟨(HM.out.its u hu).1.kept hg3 (own_far (HM.out.its u hu).1 (by have := HG.out; omega)), (HM.out.its u hu).2⟩
  have NX2 := Lib.hid (Next_v B ao1 cap1 ts (j + 1) 5 w3 ht3 (HRT.out w3 G3.out) (by have := HL.out; omega) (by omega) (by omega) 5 rfl)
  clear hg3 hz3 ht3 NX1 HM
  go_wp2_with fail
  refine NX2.out.mono ?_; rintro e w4 ⟨q, rfl, hq5, hg4, hz4, ht4⟩
  have G4 := Lib.hid (gb_trans G3.out hg4)
  have O4 : Hid (w4.ownsRow W1.heap.size 26 7 (.slice a n c) n (ptv us)) := O3.out.kept hg4 (own_far O3.out (by have := HG.out; omega))
  have I4 : Hid (∀ u ∈ us, ItA w4 W1.heap.size u) := fun u hu => ⟨(I3.out u hu).1.kept hg4 (own_far (I3.out u hu).1 (by have := HG.out; omega)), (I3.out u hu).2⟩
  have T4 := Lib.hid ht4
  have HB4 : Hid (Below w.heap.size w w4) := gb_bel HB1.out G4.out (by have := HG.out; omega)
  obtain ⟨g, rfl⟩ : ∃ g, a = some ⟨g, 0, none⟩ := by
    rcases O4.out.2 with ⟨e, h0⟩ | ⟨g, cap', cur, e, _⟩
    · omega
    · cases e; exact ⟨g, rfl⟩
  have HBK := Lib.hid (Blk.of O4.out)
  obtain ⟨hcc, hcm⟩ : n ≤ c ∧ c ≤ 9223372036854775807 := by
    rcases O4.out.2 with ⟨e, h0⟩ | ⟨g, cap', cur, e, _, _, h1, h2, _⟩
    · cases e
    · cases e; unfold maxLen at h2; omega
  have hri : (r : Int) < (n : Int) := by omega
  clear hg4 hz4 ht4 NX2 O3 I3 G3
  by_cases hq0 : q = 0
  · subst hq0
    have SP := Lib.hid (spoiled9_v B ao1 cap1 ts (j + 1 + 1) w4 T4.out (HRT.out w4 G4.out) HTL.out (by have := HL.out; omega))
    go_wp2_with fail
    refine SP.out.mono ?_; rintro e w5 ⟨pQ, bQ, cQ, lQ, rfl, hoQ, hlQ, hsQ, hgQ, _⟩
    have O5 : w5.ownsRow W1.heap.size 26 7 (.slice (some ⟨g, 0, none⟩) n c) n (ptv us) := O4.out.kept hgQ (own_far O4.out (by have := HG.out; omega))
    have I5 : ∀ u ∈ us, ItA w5 W1.heap.size u := fun u hu => ⟨(I4.out u hu).1.kept hgQ (own_far (I4.out u hu).1 (by have := HG.out; omega)), (I4.out u hu).2⟩
    have U5 : ItA w5 W1.heap.size ⟨pQ, some ⟨bQ, 0, none⟩, lQ, cQ⟩ := ⟨own_mono9 hoQ G4.out.size, hlQ, hsQ⟩
    have B5 := gb_bel HB4.out hgQ (by have := HG.out; omega)
    have bk := Blk.of O5
    obtain ⟨W9, hW9⟩ : ∃ W, W = set7o w5 g (r * 7) pQ (.slice (some ⟨bQ, 0, none⟩) lQ.length cQ) := ⟨_, rfl⟩
    have HR9' : Hid (RdP W9 (some ⟨g, 0, none⟩) c (us.set r ⟨pQ, some ⟨bQ, 0, none⟩, lQ, cQ⟩)) := by
      have h1 := rdP_put (u := ⟨pQ, some ⟨bQ, 0, none⟩, lQ, cQ⟩) HL.out.1 O5 I5 U5 hrn
      simp only at h1
      rw [← hW9] at h1
      exact h1
    have HB9 : Hid (Below w.heap.size w W9) := by rw [hW9]; exact gb_bel B5 (set7o_gb w5 g (r * 7) pQ _) (by have := (O5.lt g rfl).1; have := HG.out; omega)
    have z0 := fun j => bk.fz j
    have kc : ∀ q, q < n * 7 → ∃ v, w5.cell? ⟨g, q, none⟩ = some v := fun q hq => by
      obtain ⟨cur, h1, h2⟩ := bk.b
      have : q < cur.size := by omega
      exact ⟨cur[q], by simp [World.cell?, h1, this]⟩
    obtain ⟨y0, k0⟩ := kc (r * 7) (by omega)
    obtain ⟨y1, k1⟩ := kc (r * 7 + 1) (by omega)
    obtain ⟨y2, k2⟩ := kc (r * 7 + 2) (by omega)
    obtain ⟨y3, k3⟩ := kc (r * 7 + 3) (by omega)
    obtain ⟨y4, k4⟩ := kc (r * 7 + 4) (by omega)
    obtain ⟨y5, k5⟩ := kc (r * 7 + 5) (by omega)
    obtain ⟨y6, k6⟩ := kc (r * 7 + 6) (by omega)
    have f0 := z0 (r * 7)
    have f1 := z0 (r * 7 + 1)
    have f2 := z0 (r * 7 + 2)
    have f3 := z0 (r * 7 + 3)
    have f4 := z0 (r * 7 + 4)
    have f5 := z0 (r * 7 + 5)
    have f6 := z0 (r * 7 + 6)
    obtain ⟨us', hus⟩ : ∃ us', us' = us.set r ⟨pQ, some ⟨bQ, 0, none⟩, lQ, cQ⟩ := ⟨_, rfl⟩
    have HN9 : Hid (us'.length = n) := by unfold Hid; rw [hus, List.length_set]; exact HL.out.1
    rw [← hus] at HR9'
    obtain ⟨us, rfl⟩ : ∃ us, us = us' := ⟨_, rfl⟩
    have HR9 := HR9'
    obtain ⟨a, ha⟩ : ∃ a, a = (some ⟨g, 0, none⟩ : Option Addr) := ⟨_, rfl⟩
    clear hoQ hlQ hsQ hgQ O5 I5 U5 B5 bk z0 kc hus HR9' SP
    go_upto_region 10 with fail
    have hfold : ((((((w5.setCell ⟨g, r * 7, none⟩ (.string pQ.id)).setCell ⟨g, r * 7 + 1, none⟩ (.string pQ.co)).setCell ⟨g, r * 7 + 2, none⟩ (.string pQ.br)).setCell ⟨g, r * 7 + 3, none⟩ (.int .i64 pQ.d)).setCell ⟨g, r * 7 + 4, none⟩ (.int .i64 pQ.c)).setCell ⟨g, r * 7 + 5, none⟩ (.int .i64 pQ.a)).setCell ⟨g, r * 7 + 6, none⟩ (.slice (some ⟨bQ, 0, none⟩) lQ.length cQ) = W9 := by rw [hW9]; rfl
    rw [hfold]
    rw [← ha] at HR9 ⊢
    clear hfold hW9 k0 k1 k2 k3 k4 k5 k6 f0 f1 f2 f3 f4 f5 f6 ha
    go_wp2_with fail
    go_loopw [41] (fun s41 wr => ∃ k : Nat, k ≤ 7 ∧ s41 = .int .i64 (k : Int) ∧ Hid (Below W9.heap.size W9 wr)) (fun s41 _ => 7 - (intOf s41).toNat)
    case atStart => exact ⟨0, by omega, rfl, Below.refl _ _⟩
    case round =>
      obtain ⟨k, hk7, rfl, hbl⟩ := hrel
      by_cases hlt : k < 7
      · have hlt2 : (k : Int) < 7 := by omega
        have IDC : Hid (∀ W, Calls Tryd.prog 13 #[.int .i64 (k : Int)] W fun e w' => e = .returned (.string (idB k)) ∧ Below W.heap.size W w') := fun W => ID_v k (by omega) (k : Int) rfl W
        obtain ⟨s, hs⟩ : ∃ s, s = idB k := ⟨_, rfl⟩
        rw [← hs] at IDC
        have FC : Hid (∀ W, Below W9.heap.size W9 W → Calls Tryd.prog 14 #[.slice a n c, .string s] W (FPost us s W)) := fun W h => by
          have := Find_v a c us s W (HR9.out.below h)
          rw [HN9.out] at this
          exact this
        have FR : Hid (∀ W, Below W9.heap.size W9 W → Calls Tryd.prog 15 #[.slice a n c, .string s] W (FPost us s W)) := fun W h => by
          have := rFind_v a c us s W (HR9.out.below h)
          rw [HN9.out] at this
          exact this
        clear hs
        go_wp2_with fail
        refine (IDC.out wr).mono ?_; rintro e v1 ⟨rfl, b1⟩
        have B1 := Lib.hid (keep hbl.out b1)
        clear b1
        go_wp2_with fail
        refine (FC.out v1 B1.out).mono ?_; rintro e v2 ⟨u, b, a2, c2, hf, rfl, hrd, b2⟩
        have HF := Lib.hid hf
        obtain ⟨m, hm⟩ : ∃ m, m = u.l.length := ⟨_, rfl⟩
        have HM := Lib.hid hm
        obtain ⟨V3, hV3⟩ : ∃ W, W = v2.alloc (.cells #[.string u.p.id, .string u.p.co, .string u.p.br, .int .i64 u.p.d, .int .i64 u.p.c, .int .i64 u.p.a, .slice a2 m c2] 26) := ⟨_, rfl⟩
        obtain ⟨g3, hg3⟩ : ∃ g, g = v2.heap.size := ⟨_, rfl⟩
        have b3 : Below v2.heap.size v2 V3 := by rw [hV3]; exact below_new _ _
        have P3 : Hid (PB V3 g3 u.p (.slice a2 m c2)) := by rw [hV3, hg3]; exact PB.new _ _ _
        have R3 := Lib.hid (hrd.below b3)
        have B3 := Lib.hid (keep (keep B1.out b2) b3)
        rw [← hm]
        clear hf hrd b2 b3 hm
        go_upto_region 14 with fail
        rw [← hV3]
        try rw [← hg3]
        clear hV3 hg3
        go_wp2_with fail
        refine (IDC.out V3).mono ?_; rintro e v4 ⟨rfl, b4⟩
        have B4 := Lib.hid (keep B3.out b4)
        have P4 := Lib.hid (P3.out.below b4)
        have R4 := Lib.hid (R3.out.below b4)
        clear b4
        go_wp2_with fail
        refine (FR.out v4 B4.out).mono ?_; rintro e v5 ⟨u', b', a5, c5, hf, rfl, hrd, b5⟩
        have hff := HF.out.symm.trans hf
        obtain ⟨rfl, rfl⟩ := Prod.mk.inj hff
        obtain ⟨V6, hV6⟩ : ∃ W, W = v5.alloc (.cells #[.string u.p.id, .string u.p.co, .string u.p.br, .int .i64 u.p.d, .int .i64 u.p.c, .int .i64 u.p.a, .slice a5 m c5] 26) := ⟨_, rfl⟩
        obtain ⟨g6, hg6⟩ : ∃ g, g = v5.heap.size := ⟨_, rfl⟩
        have b6 : Below v5.heap.size v5 V6 := by rw [hV6]; exact below_new _ _
        have P6 : Hid (PB V6 g6 u.p (.slice a5 m c5)) := by rw [hV6, hg6]; exact PB.new _ _ _
        have B6 := Lib.hid (keep (keep B4.out b5) b6)
        have P36 : Hid (PB V6 g3 u.p (.slice a2 m c2)) := (P4.out.below b5).below b6
        have SM := Lib.hid (by have := Same_v u.p a2 a5 c2 c5 u.l V6 ((R4.out.below b5).below b6) (hrd.below b6); rw [← HM.out] at this; exact this)
        rw [← HM.out]
        clear hf hff hrd b5 b6
        go_upto_region 15 with fail
        rw [← hV6]
        try rw [← hg6]
        clear hV6 hg6
        obtain ⟨k0, k1, k2, k3, k4, k5, k6⟩ := P36.out.cells
        obtain ⟨l0, l1, l2, l3, l4, l5, l6⟩ := P6.out.cells
        have hbb : (b != b) = false := bne_self_eq_false b
        obtain ⟨pi, pc, pb, pd, pe, pa, hp1, hp2, hp3, hp4, hp5, hp6⟩ : ∃ pi pc pb pd pe pa, pi = u.p.id ∧ pc = u.p.co ∧ pb = u.p.br ∧ pd = u.p.d ∧ pe = u.p.c ∧ pa = u.p.a := ⟨_, _, _, _, _, _, rfl, rfl, rfl, rfl, rfl, rfl⟩
        rw [← hp1, ← hp2, ← hp3, ← hp4, ← hp5, ← hp6] at SM
        rw [← hp1] at k0 l0
        rw [← hp2] at k1 l1
        rw [← hp3] at k2 l2
        rw [← hp4] at k3 l3
        rw [← hp5] at k4 l4
        rw [← hp6] at k5 l5
        clear hp1 hp2 hp3 hp4 hp5 hp6
        cases b <;>
        · go_wp2_with fail
          refine SM.out.mono ?_; rintro e v7 ⟨rfl, b7⟩
          have B7 := Lib.hid (keep B6.out b7)
          clear b7 k0 k1 k2 k3 k4 k5 k6 l0 l1 l2 l3 l4 l5 l6
          go_wp2_with fail
          go_roundw
          case rel => exact ⟨k + 1, by omega, by go_num, B7⟩
          case measure => simp [intOf]; omega
      · obtain rfl : k = 7 := by omega
        have hlt2 : ¬ ((7 : Nat) : Int) < 7 := by omega
        have VC := Lib.hid (by have := ValidateCatalog_v a c us wr (HR9.out.below hbl.out) (HEV.out wr (keep HB9.out hbl.out)); rw [HN9.out] at this; exact this)
        obtain ⟨x, hx⟩ : ∃ x, x = cerr us := ⟨_, rfl⟩
        have RC : Hid (∀ W, Below W9.heap.size W9 W → Calls Tryd.prog 18 #[.slice a n c] W fun e w' => e = .returned (.int .i64 x) ∧ Below W.heap.size W w') := fun W h => by
          have := rValidateCatalog_v a c us W (HR9.out.below h)
          rw [HN9.out, ← hx] at this
          exact this
        rw [← hx] at VC
        clear hx
        go_wp2_with fail
        refine VC.out.mono ?_; rintro e v1 ⟨rfl, b1⟩
        have B1 := Lib.hid (keep hbl.out b1)
        clear b1
        go_wp2_with fail
        refine (RC.out v1 B1.out).mono ?_; rintro e v2 ⟨rfl, b2⟩
        have B2 := Lib.hid (keep B1.out b2)
        clear b2
        go_wp2_with fail
        refine (awake_v v2).mono ?_; rintro e v3 ⟨rfl, b3⟩
        have HBF : Hid (Below w.heap.size w v3) := keep HB9.out (keep B2.out b3)
        clear b3
        go_wp2_with fail
        go_ret
        exact ⟨rfl, HBF.out⟩
  have hq0I : ¬ (q : Int) = 0 := by omega
  by_cases hq1 : q = 1
  · subst hq1
    have NX3 := Lib.hid (Next_v B ao1 cap1 ts (j + 1 + 1) 6 w4 T4.out (HRT.out w4 G4.out) (by have := HL.out; omega) (by omega) (by omega) 6 rfl)
    go_wp2_with fail
    refine NX3.out.mono ?_; rintro e w5 ⟨d, rfl, hd6, hg5, hz5, ht5⟩
    have ID1 := Lib.hid (ID_v d (by omega) (d : Int) rfl w5)
    have G5 := Lib.hid hg5
    clear hg5 hz5 ht5
    go_wp2_with fail
    refine ID1.out.mono ?_; rintro e w6 ⟨rfl, b6⟩
    have O5 : w5.ownsRow W1.heap.size 26 7 (.slice (some ⟨g, 0, none⟩) n c) n (ptv us) := O4.out.kept G5.out (own_far O4.out (by have := HG.out; omega))
    have I5 : ∀ u ∈ us, ItA w5 W1.heap.size u := fun u hu => ⟨(I4.out u hu).1.kept G5.out (own_far (I4.out u hu).1 (by have := HG.out; omega)), (I4.out u hu).2⟩
    have O6 := own_below O5 b6
    have I6 : ∀ u ∈ us, ItA w6 W1.heap.size u := fun u hu => ⟨own_below (I5 u hu).1 b6, (I5 u hu).2⟩
    have B6 := keep (gb_bel HB4.out G5.out (by have := HG.out; omega)) b6
    obtain ⟨s, hs⟩ : ∃ s, s = idB d := ⟨_, rfl⟩
    have hss : s.size ≤ 100 := by rw [hs]; exact idB_sz d
    obtain ⟨W9, hW9⟩ : ∃ W, W = w6.setCell ⟨g, r * 7, none⟩ (.string s) := ⟨_, rfl⟩
    obtain ⟨us', hl', hr'⟩ := rdP_id (r := r) (s := s) HL.out.1 O6 I6 hss hrn
    rw [← hW9] at hr'
    have HB9 : Hid (Below w.heap.size w W9) := by rw [hW9]; exact gb_bel B6 (gb_set w6 g (r * 7) _) (by have := (O6.lt g rfl).1; have := HG.out; omega)
    have bk := Blk.of O6
    obtain ⟨y0, k0⟩ : ∃ v, w6.cell? ⟨g, r * 7, none⟩ = some v := by
      obtain ⟨cur, h1, h2⟩ := bk.b
      have : r * 7 < cur.size := by omega
      exact ⟨cur[r * 7], by simp [World.cell?, h1, this]⟩
    have f0 := bk.fz (r * 7)
    have HN9 := Lib.hid hl'
    have HR9 := Lib.hid hr'
    obtain ⟨us, rfl⟩ : ∃ us, us = us' := ⟨_, rfl⟩
    obtain ⟨a, ha⟩ : ∃ a, a = (some ⟨g, 0, none⟩ : Option Addr) := ⟨_, rfl⟩
    rw [← hs]
    clear b6 O5 I5 O6 I6 B6 bk hl' hr' hs hss ID1 NX3
    go_upto_region 10 with fail
    rw [← hW9]
    rw [← ha] at HR9 ⊢
    clear hW9 k0 f0 ha
    go_wp2_with fail
    go_loopw [41] (fun s41 wr => ∃ k : Nat, k ≤ 7 ∧ s41 = .int .i64 (k : Int) ∧ Hid (Below W9.heap.size W9 wr)) (fun s41 _ => 7 - (intOf s41).toNat)
    case atStart => exact ⟨0, by omega, rfl, Below.refl _ _⟩
    case round =>
      obtain ⟨k, hk7, rfl, hbl⟩ := hrel
      by_cases hlt : k < 7
      · have hlt2 : (k : Int) < 7 := by omega
        have IDC : Hid (∀ W, Calls Tryd.prog 13 #[.int .i64 (k : Int)] W fun e w' => e = .returned (.string (idB k)) ∧ Below W.heap.size W w') := fun W => ID_v k (by omega) (k : Int) rfl W
        obtain ⟨s, hs⟩ : ∃ s, s = idB k := ⟨_, rfl⟩
        rw [← hs] at IDC
        have FC : Hid (∀ W, Below W9.heap.size W9 W → Calls Tryd.prog 14 #[.slice a n c, .string s] W (FPost us s W)) := fun W h => by
          have := Find_v a c us s W (HR9.out.below h)
          rw [HN9.out] at this
          exact this
        have FR : Hid (∀ W, Below W9.heap.size W9 W → Calls Tryd.prog 15 #[.slice a n c, .string s] W (FPost us s W)) := fun W h => by
          have := rFind_v a c us s W (HR9.out.below h)
          rw [HN9.out] at this
          exact this
        clear hs
        go_wp2_with fail
        refine (IDC.out wr).mono ?_; rintro e v1 ⟨rfl, b1⟩
        have B1 := Lib.hid (keep hbl.out b1)
        clear b1
        go_wp2_with fail
        refine (FC.out v1 B1.out).mono ?_; rintro e v2 ⟨u, b, a2, c2, hf, rfl, hrd, b2⟩
        have HF := Lib.hid hf
        obtain ⟨m, hm⟩ : ∃ m, m = u.l.length := ⟨_, rfl⟩
        have HM := Lib.hid hm
        obtain ⟨V3, hV3⟩ : ∃ W, W = v2.alloc (.cells #[.string u.p.id, .string u.p.co, .string u.p.br, .int .i64 u.p.d, .int .i64 u.p.c, .int .i64 u.p.a, .slice a2 m c2] 26) := ⟨_, rfl⟩
        obtain ⟨g3, hg3⟩ : ∃ g, g = v2.heap.size := ⟨_, rfl⟩
        have b3 : Below v2.heap.size v2 V3 := by rw [hV3]; exact below_new _ _
        have P3 : Hid (PB V3 g3 u.p (.slice a2 m c2)) := by rw [hV3, hg3]; exact PB.new _ _ _
        have R3 := Lib.hid (hrd.below b3)
        have B3 := Lib.hid (keep (keep B1.out b2) b3)
        rw [← hm]
        clear hf hrd b2 b3 hm
        go_upto_region 14 with fail
        rw [← hV3]
        try rw [← hg3]
        clear hV3 hg3
        go_wp2_with fail
        refine (IDC.out V3).mono ?_; rintro e v4 ⟨rfl, b4⟩
        have B4 := Lib.hid (keep B3.out b4)
        have P4 := Lib.hid (P3.out.below b4)
        have R4 := Lib.hid (R3.out.below b4)
        clear b4
        go_wp2_with fail
        refine (FR.out v4 B4.out).mono ?_; rintro e v5 ⟨u', b', a5, c5, hf, rfl, hrd, b5⟩
        have hff := HF.out.symm.trans hf
        obtain ⟨rfl, rfl⟩ := Prod.mk.inj hff
        obtain ⟨V6, hV6⟩ : ∃ W, W = v5.alloc (.cells #[.string u.p.id, .string u.p.co, .string u.p.br, .int .i64 u.p.d, .int .i64 u.p.c, .int .i64 u.p.a, .slice a5 m c5] 26) := ⟨_, rfl⟩
        obtain ⟨g6, hg6⟩ : ∃ g, g = v5.heap.size := ⟨_, rfl⟩
        have b6 : Below v5.heap.size v5 V6 := by rw [hV6]; exact below_new _ _
        have P6 : Hid (PB V6 g6 u.p (.slice a5 m c5)) := by rw [hV6, hg6]; exact PB.new _ _ _
        have B6 := Lib.hid (keep (keep B4.out b5) b6)
        have P36 : Hid (PB V6 g3 u.p (.slice a2 m c2)) := (P4.out.below b5).below b6
        have SM := Lib.hid (by have := Same_v u.p a2 a5 c2 c5 u.l V6 ((R4.out.below b5).below b6) (hrd.below b6); rw [← HM.out] at this; exact this)
        rw [← HM.out]
        clear hf hff hrd b5 b6
        go_upto_region 15 with fail
        rw [← hV6]
        try rw [← hg6]
        clear hV6 hg6
        obtain ⟨k0, k1, k2, k3, k4, k5, k6⟩ := P36.out.cells
        obtain ⟨l0, l1, l2, l3, l4, l5, l6⟩ := P6.out.cells
        have hbb : (b != b) = false := bne_self_eq_false b
        obtain ⟨pi, pc, pb, pd, pe, pa, hp1, hp2, hp3, hp4, hp5, hp6⟩ : ∃ pi pc pb pd pe pa, pi = u.p.id ∧ pc = u.p.co ∧ pb = u.p.br ∧ pd = u.p.d ∧ pe = u.p.c ∧ pa = u.p.a := ⟨_, _, _, _, _, _, rfl, rfl, rfl, rfl, rfl, rfl⟩
        rw [← hp1, ← hp2, ← hp3, ← hp4, ← hp5, ← hp6] at SM
        rw [← hp1] at k0 l0
        rw [← hp2] at k1 l1
        rw [← hp3] at k2 l2
        rw [← hp4] at k3 l3
        rw [← hp5] at k4 l4
        rw [← hp6] at k5 l5
        clear hp1 hp2 hp3 hp4 hp5 hp6
        cases b <;>
        · go_wp2_with fail
          refine SM.out.mono ?_; rintro e v7 ⟨rfl, b7⟩
          have B7 := Lib.hid (keep B6.out b7)
          clear b7 k0 k1 k2 k3 k4 k5 k6 l0 l1 l2 l3 l4 l5 l6
          go_wp2_with fail
          go_roundw
          case rel => exact ⟨k + 1, by omega, by go_num, B7⟩
          case measure => simp [intOf]; omega
      · obtain rfl : k = 7 := by omega
        have hlt2 : ¬ ((7 : Nat) : Int) < 7 := by omega
        have VC := Lib.hid (by have := ValidateCatalog_v a c us wr (HR9.out.below hbl.out) (HEV.out wr (keep HB9.out hbl.out)); rw [HN9.out] at this; exact this)
        obtain ⟨x, hx⟩ : ∃ x, x = cerr us := ⟨_, rfl⟩
        have RC : Hid (∀ W, Below W9.heap.size W9 W → Calls Tryd.prog 18 #[.slice a n c] W fun e w' => e = .returned (.int .i64 x) ∧ Below W.heap.size W w') := fun W h => by
          have := rValidateCatalog_v a c us W (HR9.out.below h)
          rw [HN9.out, ← hx] at this
          exact this
        rw [← hx] at VC
        clear hx
        go_wp2_with fail
        refine VC.out.mono ?_; rintro e v1 ⟨rfl, b1⟩
        have B1 := Lib.hid (keep hbl.out b1)
        clear b1
        go_wp2_with fail
        refine (RC.out v1 B1.out).mono ?_; rintro e v2 ⟨rfl, b2⟩
        have B2 := Lib.hid (keep B1.out b2)
        clear b2
        go_wp2_with fail
        refine (awake_v v2).mono ?_; rintro e v3 ⟨rfl, b3⟩
        have HBF : Hid (Below w.heap.size w v3) := keep HB9.out (keep B2.out b3)
        clear b3
        go_wp2_with fail
        go_ret
        exact ⟨rfl, HBF.out⟩
  · have hq1I : ¬ (q : Int) = 1 := by omega
    have hq0b : ((q : Int) == 0) = false := beq_eq_false_iff_ne.2 hq0I
    have hq1b : ((q : Int) == 1) = false := beq_eq_false_iff_ne.2 hq1I
    obtain ⟨W9, rfl⟩ : ∃ W9, W9 = w4 := ⟨_, rfl⟩
    have HR9 : Hid (RdP W9 (some ⟨g, 0, none⟩) c us) := rdP_of HL.out.1 O4.out (fun u hu => (I4.out u hu).ok)
    have HB9 : Hid (Below w.heap.size w W9) := HB4.out
    have HN9 : Hid (us.length = n) := HL.out.1
    obtain ⟨a, ha⟩ : ∃ a, a = (some ⟨g, 0, none⟩ : Option Addr) := ⟨_, rfl⟩
    rw [← ha] at HR9 ⊢
    clear ha
    go_wp2_with fail
    go_loopw [41] (fun s41 wr => ∃ k : Nat, k ≤ 7 ∧ s41 = .int .i64 (k : Int) ∧ Hid (Below W9.heap.size W9 wr)) (fun s41 _ => 7 - (intOf s41).toNat)
    case atStart => exact ⟨0, by omega, rfl, Below.refl _ _⟩
    case round =>
      obtain ⟨k, hk7, rfl, hbl⟩ := hrel
      by_cases hlt : k < 7
      · have hlt2 : (k : Int) < 7 := by omega
        have IDC : Hid (∀ W, Calls Tryd.prog 13 #[.int .i64 (k : Int)] W fun e w' => e = .returned (.string (idB k)) ∧ Below W.heap.size W w') := fun W => ID_v k (by omega) (k : Int) rfl W
        obtain ⟨s, hs⟩ : ∃ s, s = idB k := ⟨_, rfl⟩
        rw [← hs] at IDC
        have FC : Hid (∀ W, Below W9.heap.size W9 W → Calls Tryd.prog 14 #[.slice a n c, .string s] W (FPost us s W)) := fun W h => by
          have := Find_v a c us s W (HR9.out.below h)
          rw [HN9.out] at this
          exact this
        have FR : Hid (∀ W, Below W9.heap.size W9 W → Calls Tryd.prog 15 #[.slice a n c, .string s] W (FPost us s W)) := fun W h => by
          have := rFind_v a c us s W (HR9.out.below h)
          rw [HN9.out] at this
          exact this
        clear hs
        go_wp2_with fail
        refine (IDC.out wr).mono ?_; rintro e v1 ⟨rfl, b1⟩
        have B1 := Lib.hid (keep hbl.out b1)
        clear b1
        go_wp2_with fail
        refine (FC.out v1 B1.out).mono ?_; rintro e v2 ⟨u, b, a2, c2, hf, rfl, hrd, b2⟩
        have HF := Lib.hid hf
        obtain ⟨m, hm⟩ : ∃ m, m = u.l.length := ⟨_, rfl⟩
        have HM := Lib.hid hm
        obtain ⟨V3, hV3⟩ : ∃ W, W = v2.alloc (.cells #[.string u.p.id, .string u.p.co, .string u.p.br, .int .i64 u.p.d, .int .i64 u.p.c, .int .i64 u.p.a, .slice a2 m c2] 26) := ⟨_, rfl⟩
        obtain ⟨g3, hg3⟩ : ∃ g, g = v2.heap.size := ⟨_, rfl⟩
        have b3 : Below v2.heap.size v2 V3 := by rw [hV3]; exact below_new _ _
        have P3 : Hid (PB V3 g3 u.p (.slice a2 m c2)) := by rw [hV3, hg3]; exact PB.new _ _ _
        have R3 := Lib.hid (hrd.below b3)
        have B3 := Lib.hid (keep (keep B1.out b2) b3)
        rw [← hm]
        clear hf hrd b2 b3 hm
        go_upto_region 14 with fail
        rw [← hV3]
        try rw [← hg3]
        clear hV3 hg3
        go_wp2_with fail
        refine (IDC.out V3).mono ?_; rintro e v4 ⟨rfl, b4⟩
        have B4 := Lib.hid (keep B3.out b4)
        have P4 := Lib.hid (P3.out.below b4)
        have R4 := Lib.hid (R3.out.below b4)
        clear b4
        go_wp2_with fail
        refine (FR.out v4 B4.out).mono ?_; rintro e v5 ⟨u', b', a5, c5, hf, rfl, hrd, b5⟩
        have hff := HF.out.symm.trans hf
        obtain ⟨rfl, rfl⟩ := Prod.mk.inj hff
        obtain ⟨V6, hV6⟩ : ∃ W, W = v5.alloc (.cells #[.string u.p.id, .string u.p.co, .string u.p.br, .int .i64 u.p.d, .int .i64 u.p.c, .int .i64 u.p.a, .slice a5 m c5] 26) := ⟨_, rfl⟩
        obtain ⟨g6, hg6⟩ : ∃ g, g = v5.heap.size := ⟨_, rfl⟩
        have b6 : Below v5.heap.size v5 V6 := by rw [hV6]; exact below_new _ _
        have P6 : Hid (PB V6 g6 u.p (.slice a5 m c5)) := by rw [hV6, hg6]; exact PB.new _ _ _
        have B6 := Lib.hid (keep (keep B4.out b5) b6)
        have P36 : Hid (PB V6 g3 u.p (.slice a2 m c2)) := (P4.out.below b5).below b6
        have SM := Lib.hid (by have := Same_v u.p a2 a5 c2 c5 u.l V6 ((R4.out.below b5).below b6) (hrd.below b6); rw [← HM.out] at this; exact this)
        rw [← HM.out]
        clear hf hff hrd b5 b6
        go_upto_region 15 with fail
        rw [← hV6]
        try rw [← hg6]
        clear hV6 hg6
        obtain ⟨k0, k1, k2, k3, k4, k5, k6⟩ := P36.out.cells
        obtain ⟨l0, l1, l2, l3, l4, l5, l6⟩ := P6.out.cells
        have hbb : (b != b) = false := bne_self_eq_false b
        obtain ⟨pi, pc, pb, pd, pe, pa, hp1, hp2, hp3, hp4, hp5, hp6⟩ : ∃ pi pc pb pd pe pa, pi = u.p.id ∧ pc = u.p.co ∧ pb = u.p.br ∧ pd = u.p.d ∧ pe = u.p.c ∧ pa = u.p.a := ⟨_, _, _, _, _, _, rfl, rfl, rfl, rfl, rfl, rfl⟩
        rw [← hp1, ← hp2, ← hp3, ← hp4, ← hp5, ← hp6] at SM
        rw [← hp1] at k0 l0
        rw [← hp2] at k1 l1
        rw [← hp3] at k2 l2
        rw [← hp4] at k3 l3
        rw [← hp5] at k4 l4
        rw [← hp6] at k5 l5
        clear hp1 hp2 hp3 hp4 hp5 hp6
        cases b <;>
        · go_wp2_with fail
          refine SM.out.mono ?_; rintro e v7 ⟨rfl, b7⟩
          have B7 := Lib.hid (keep B6.out b7)
          clear b7 k0 k1 k2 k3 k4 k5 k6 l0 l1 l2 l3 l4 l5 l6
          go_wp2_with fail
          go_roundw
          case rel => exact ⟨k + 1, by omega, by go_num, B7⟩
          case measure => simp [intOf]; omega
      · obtain rfl : k = 7 := by omega
        have hlt2 : ¬ ((7 : Nat) : Int) < 7 := by omega
        have VC := Lib.hid (by have := ValidateCatalog_v a c us wr (HR9.out.below hbl.out) (HEV.out wr (keep HB9.out hbl.out)); rw [HN9.out] at this; exact this)
        obtain ⟨x, hx⟩ : ∃ x, x = cerr us := ⟨_, rfl⟩
        have RC : Hid (∀ W, Below W9.heap.size W9 W → Calls Tryd.prog 18 #[.slice a n c] W fun e w' => e = .returned (.int .i64 x) ∧ Below W.heap.size W w') := fun W h => by
          have := rValidateCatalog_v a c us W (HR9.out.below h)
          rw [HN9.out, ← hx] at this
          exact this
        rw [← hx] at VC
        clear hx
        go_wp2_with fail
        refine VC.out.mono ?_; rintro e v1 ⟨rfl, b1⟩
        have B1 := Lib.hid (keep hbl.out b1)
        clear b1
        go_wp2_with fail
        refine (RC.out v1 B1.out).mono ?_; rintro e v2 ⟨rfl, b2⟩
        have B2 := Lib.hid (keep B1.out b2)
        clear b2
        go_wp2_with fail
        refine (awake_v v2).mono ?_; rintro e v3 ⟨rfl, b3⟩
        have HBF : Hid (Below w.heap.size w v3) := keep HB9.out (keep B2.out b3)
        clear b3
        go_wp2_with fail
        go_ret
        exact ⟨rfl, HBF.out⟩
end Go.Proofs.YtkedgkfdmdlhoaaDoor.P9
