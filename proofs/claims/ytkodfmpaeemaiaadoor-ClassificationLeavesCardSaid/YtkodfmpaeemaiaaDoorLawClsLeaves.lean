import Derived.Test.YtkodfmpaeemaiaaDoorCls27
import Derived.Test.YtkodfmpaeemaiaaDoorCls28
/- ClassificationLeaves for all inputs: Children and Leaves of any classification and string, and of made ones, answer as the reference. -/
namespace Go.Proofs.YtkodfmpaeemaiaaDoor.C6
open Go.RowKit Go.Sort

set_option maxHeartbeats 8000000 in
set_option maxRecDepth 100000 in
theorem ClassificationLeaves_any (nm : ByteArray) (co : Option Addr) (cs : List ByteArray) (cc : Nat) (s : ByteArray) (ao : Option Addr) (ts : List Int) (cap : Nat) (w : World) (hc : RdS w co cc cs) (hcs : ∀ s ∈ cs, s.size ≤ 9223372036854775807) (hs : s.size ≤ 9223372036854775807) (hr : RdZ w ao cap ts) (hev : ErrV w) :
    Calls Tryd.prog 4 #[.agg #[.string nm, .slice co cs.length cc], .string s, .slice ao ts.length cap] w fun e w' => e = .returned (.bool true) ∧ Below w.heap.size w w' := by
  obtain ⟨i0, hi, hz0, hz1, hz2⟩ := info_parts infoStr
  obtain ⟨q, hq⟩ : ∃ q : Nat, min ((s.size : Nat) : Int) 20 = (q : Int) := ⟨(min ((s.size : Nat) : Int) 20).toNat, by omega⟩
  have hqs : q ≤ s.size := by omega
  have hqI : (q : Int) ≤ (s.size : Int) := by omega
  have b1 := below_new w (.cells #[.string nm, .slice co cs.length cc] 24)
  have k1 := Bxn.new w nm (.slice co cs.length cc)
  obtain ⟨W1, hW1⟩ : ∃ W1, W1 = w.alloc (.cells #[.string nm, .slice co cs.length cc] 24) := ⟨_, rfl⟩
  rw [← hW1] at b1 k1
  have hs1 : W1.heap.size = w.heap.size + 1 := by rw [hW1]; simp
  have b2 := below_new W1 (.cells #[.slice ao ts.length cap, .int .i64 0] 29)
  have hT := Tap.new W1 ao ts.length cap
  have k2 := k1.below b2
  obtain ⟨W2, hW2⟩ : ∃ W2, W2 = W1.alloc (.cells #[.slice ao ts.length cap, .int .i64 0] 29) := ⟨_, rfl⟩
  rw [← hW2] at b2 hT k2
  have hs2 : W2.heap.size = w.heap.size + 2 := by rw [hW2, World.size_alloc, hs1]
  have b12 : Below w.heap.size w W2 := keep b1 b2
  obtain ⟨G, hG⟩ : ∃ G, G = w.heap.size := ⟨_, rfl⟩
  rw [hs1, ← hG] at hT
  rw [← hG] at k2
  have HTB : Hid (0 < (intz ts).length → ∀ b o, ao = some ⟨b, o, none⟩ → b < G) := by unfold Hid; rw [hG]; exact hr.lt
  have HR := Lib.hid hr
  have HTP := Lib.hid hT
  have HB12 := Lib.hid b12
  have HC := Lib.hid (hc.below b12)
  have HE := Lib.hid hev
  have HK2 := Lib.hid k2
  have q0 := k2.c0
  have q1 := k2.c1
  have HG : Hid (G = w.heap.size ∧ W2.heap.size = G + 2) := ⟨hG, by omega⟩
  obtain ⟨cn, hcn⟩ : ∃ n, n = cs.length := ⟨_, rfl⟩
  rw [← hcn] at hW1 HK2 q1 ⊢
  obtain ⟨R, hRe⟩ : ∃ R, R = rawl cs := ⟨_, rfl⟩
  obtain ⟨rn, hrn⟩ : ∃ n, n = R.length := ⟨_, rfl⟩
  have HRsz : Hid (∀ s ∈ R, s.size ≤ 1000) := by unfold Hid; rw [hRe]; exact rawl_sz cs
  have HRl : Hid (R.length ≤ 30) := by unfold Hid; rw [hRe]; exact rawl_ln cs
  have hRaw : Calls Tryd.prog 8 #[.agg #[.string nm, .slice co cn cc]] W2 fun e w2 => ∃ ao' cap', e = .returned (.agg #[.string nm, .slice ao' rn cap']) ∧ RdS w2 ao' cap' R ∧ Below W2.heap.size W2 w2 ∧ (0 < (strs R).length → ∀ b o, ao' = some ⟨b, o, none⟩ → W2.heap.size ≤ b) := by
    rw [hrn, hRe, hcn]
    exact raw_v nm co cc cs W2 HC.out hcs
  have HRW := Lib.hid hRaw
  have HRN := Lib.hid hrn
  have HSp : Hid (∀ w', Tap w' (G + 1) ao ts.length cap 0 → w.grownBy w' (some (G + 1)) → Calls Tryd.prog 7 #[.pointer (some ⟨G + 1, 0, none⟩)] w' (SpPost w' (G + 1) ao ts.length cap 0)) := fun w' ht hg =>
    spoiled_v (G + 1) ao cap ts 0 w' ht (HR.out.gbne (fun h0 b o e => by have := HTB.out h0 b o e; omega) hg) (fun h0 b o e => Nat.lt_succ_of_lt (HTB.out h0 b o e)) (by omega)
  have HCo : Hid (∀ w' j, j ≤ 30 → Tap w' (G + 1) ao ts.length cap j → w.grownBy w' (some (G + 1)) → Calls Tryd.prog 12 #[.pointer (some ⟨G + 1, 0, none⟩)] w' (CodePost w' (G + 1) ao ts.length cap j)) := fun w' j hj ht hg =>
    code_v (G + 1) ao cap ts j w' ht (HR.out.gbne (fun h0 b o e => by have := HTB.out h0 b o e; omega) hg) (fun h0 b o e => Nat.lt_succ_of_lt (HTB.out h0 b o e)) (by omega)
  obtain ⟨tn, htn⟩ : ∃ n, n = ts.length := ⟨_, rfl⟩
  rw [← htn] at HSp HCo HTP hW2 ⊢
  clear b1 k1 b2 hT k2 b12 hc hcs hr hev hs1 hs2 htn hcn hRaw hRe hrn HR HTB HC
  go_enter Tryd.func4, Tryd.ntmps4
  go_wp2_with fail
  rw [← hW1, ← hW2, ← hG]
  clear hW1 hW2 hG
  refine HRW.out.mono ?_; rintro e w3 ⟨a5, c5, rfl, hrd3, hbl3, hge3⟩
  have k3 := HK2.out.below hbl3
  have f0 := k3.fz 0
  have f1 := k3.fz 1
  have r0 := k3.c0
  have r1 := k3.c1
  have k4 := (k3.set0 nm).set (.slice a5 rn c5)
  have hne : 0 < (strs R).length → ∀ b o, a5 = some ⟨b, o, none⟩ → b ≠ G := fun h0 b o e => by have := hge3 h0 b o e; have := HG.out; omega
  have hne1 : 0 < (strs R).length → ∀ b o, a5 = some ⟨b, o, none⟩ → b ≠ G + 1 := fun h0 b o e => by have := hge3 h0 b o e; have := HG.out; omega
  have hr4 := (hrd3.gbne hne (gb_set w3 G 0 (.string nm))).gbne hne (gb_set _ G 1 (.slice a5 rn c5))
  have t4 := ((HTP.out.keep hbl3).grown (gb_set w3 G 0 (.string nm)) (fun e => by have := Option.some.inj e; omega)).grown (gb_set _ G 1 (.slice a5 rn c5)) (fun e => by have := Option.some.inj e; omega)
  have hb4 := ((keep HB12.out hbl3).setCell (p := ⟨G, 0, none⟩) (by show w.heap.size ≤ G; have := HG.out; omega) (.string nm)).setCell (p := ⟨G, 1, none⟩) (by show w.heap.size ≤ G; have := HG.out; omega) (.slice a5 rn c5)
  obtain ⟨W4, hW4⟩ : ∃ W4, W4 = (w3.setCell ⟨G, 0, none⟩ (.string nm)).setCell ⟨G, 1, none⟩ (.slice a5 rn c5) := ⟨_, rfl⟩
  have hs4 : W4.heap.size = w3.heap.size := by rw [hW4]; simp
  rw [← hW4] at k4 hr4 t4 hb4
  have K4 := Lib.hid k4
  have HR4 := Lib.hid hr4
  have T4 := Lib.hid t4
  have HB4 := Lib.hid hb4
  have HNE := Lib.hid hne1
  have HS4 : Hid (G + 2 ≤ W4.heap.size) := by unfold Hid; have := hbl3.size; have := HG.out; omega
  clear hrd3 hbl3 hge3 k3 k4 hne hne1 hr4 t4 hb4 hs4 q0 q1
  go_wp2_with fail
  rw [← hW4]
  clear hW4 f0 f1 r0 r1
  refine (HSp.out W4 T4.out (below_gb HB4.out _)).mono ?_; rintro e w5 ⟨l, b, c, rfl, hrow5, hl11, hsz, hg5, j5, hj5, ht5⟩
  have k5 := K4.out.grown hg5 (fun e => by have := Option.some.inj e; omega)
  have hr5 := HR4.out.gbne HNE.out hg5
  have hb5 : Below w.heap.size w w5 := HB4.out.grown hg5 HB4.out.size (fun k e => by have := Option.some.inj e; have := HG.out; omega)
  have hs5 : G + 2 ≤ w5.heap.size := by have := hg5.size; have := HS4.out; omega
  have hbr := hrow5.lt b rfl
  have kd5 := Bxn.new w5 ⟨#[99]⟩ (.slice (some ⟨b, 0, none⟩) l.length c)
  have b6 := below_new w5 (.cells #[.string ⟨#[99]⟩, .slice (some ⟨b, 0, none⟩) l.length c] 24)
  have qd1 := (kd5.below (below_new _ (.cells #[] 9))).c1
  have hcl : l.length ≤ c ∧ c ≤ 9223372036854775807 := by
    obtain ⟨a', c', e', hrd', _⟩ := RdV.of_row hrow5
    rw [strs_length] at e'
    obtain rfl : c' = c := by injection e' with _ _ h3; exact h3.symm
    have := hrd'.1
    rw [strs_length] at this
    exact ⟨this, hrd'.2.1⟩
  obtain ⟨hcl1, hcl2⟩ := hcl
  obtain ⟨W6, hW6⟩ : ∃ W6, W6 = w5.alloc (.cells #[.string ⟨#[99]⟩, .slice (some ⟨b, 0, none⟩) l.length c] 24) := ⟨_, rfl⟩
  rw [← hW6] at kd5 b6
  have hs6 : W6.heap.size = w5.heap.size + 1 := by rw [hW6]; simp
  have k6 := k5.below b6
  have hr6 := hr5.below b6
  have t6 := ht5.keep b6
  have hrow6 := own_below hrow5 b6
  have hb6 := keep hb5 b6
  have b7 := below_new W6 (.cells #[] 9)
  have hOW := World.ownsRow_lit (base := w5.heap.size + 1) (e := 9) (size := 1) W6 #[] 0 (by omega) (by unfold maxLen; omega) rfl
  rw [hs6] at hOW
  have hnews : ∀ k u, (strs l)[k]? = some u → (W6.alloc (.cells #[] 9)).cell? ((⟨b, 0, none⟩ : Addr).add k) = some u := fun k u hu => by
    rw [show (⟨b, 0, none⟩ : Addr).add k = ⟨b, k, none⟩ by cases k <;> simp [Addr.add]]
    exact ((own_below hrow6 b7).cellAt k (by have := (List.getElem?_eq_some_iff.1 hu).1; rw [strs_length] at this; omega)).trans hu
  obtain ⟨W7, hW7⟩ : ∃ W7, W7 = W6.alloc (.cells #[] 9) := ⟨_, rfl⟩
  rw [← hW7] at b7 hOW hnews
  have hs7 : W7.heap.size = w5.heap.size + 2 := by rw [hW7, World.size_alloc, hs6]
  have K6 := Lib.hid k6
  have KD6 := Lib.hid kd5
  have HR6 := Lib.hid hr6
  have T6 := Lib.hid t6
  have HROW6 := Lib.hid hrow6
  have HB6 := Lib.hid hb6
  have B7 := Lib.hid b7
  have HOW := Lib.hid hOW
  have HNEWS := Lib.hid hnews
  have HS7 : Hid (W6.heap.size = w5.heap.size + 1 ∧ W7.heap.size = w5.heap.size + 2 ∧ G + 2 ≤ b ∧ b < w5.heap.size ∧ G + 2 ≤ w5.heap.size) := ⟨hs6, hs7, by have := HS4.out; omega, hbr.2, hs5⟩
  have HSZ : Hid (∀ s ∈ l, s.size ≤ 1000) := hsz
  have HON : Hid (∀ ls : List ByteArray, ∀ u ∈ strs ls, u.oneCell' = true) := fun ls u hu => by
    obtain ⟨s, _, rfl⟩ := List.mem_map.1 hu
    rfl
  clear k5 hr5 hb5 kd5 k6 hr6 t6 hrow6 hb6 b6 b7 hOW hnews hrow5 hg5 hbr hs5 hs6 hs7 hsz ht5
  go_wp2_with (at_builtin; (rw [← hW6, ← hW7]; refine wpList_append_own _ rfl _ _ 22 rfl (w5.heap.size + 1) 9 i0 (.string ByteArray.empty) 1 16 Tryd.underlying22 hi hz0 hz1 hz2 rfl (by omega) _ 0 [] rfl HOW.out ⟨b, 0, none⟩ l.length c (strs l) rfl (by rw [strs_length]; omega) HNEWS.out (HON.out _) (by unfold maxLen; omega) (by omega) (by rw [HS7.out.2.1]; omega) ?_; intro v8 w8 hown8 hgr8 _; rw [Nat.zero_add] at hown8; obtain ⟨a8, c8, rfl⟩ := of_row_n hown8))
  clear qd1 hW6 hW7
  have hb68 : Below W6.heap.size W6 w8 := B7.out.grown hgr8 (by have := HS7.out; omega) (fun k e => by have h1 : w5.heap.size + 1 = k := Option.some.inj e; have := HS7.out; omega)
  have t8 := T6.out.keep hb68
  have HB8 := Lib.hid (keep HB6.out hb68)
  have HB68 := Lib.hid hb68
  have HO8 := Lib.hid hown8
  clear hown8 hgr8 hb68
  refine (HCo.out w8 j5 (by omega) t8 (below_gb HB8.out _)).mono ?_; rintro e w9 ⟨u0, rfl, hu0, hg9, j9, _, _, _⟩
  have hg69 : W6.grownBy w9 (some (G + 1)) := gb_trans (below_gb HB68.out _) hg9
  have ho9 := (HO8.out.kept hg9 (row_block HO8.out (by have := HS7.out; omega))).alloc (.cells #[.string ⟨#[]⟩, .string u0] 9)
  have HG69 := Lib.hid hg69
  have HO9 := Lib.hid ho9
  have hs9 : w5.heap.size + 1 ≤ w9.heap.size := by have := hg69.size; have := HS7.out; omega
  clear hg9 hg69 ho9 t8
  go_wp2_with (at_builtin; refine wpList_append_own _ rfl _ _ 22 rfl (w5.heap.size + 1) 9 i0 (.string ByteArray.empty) 1 16 Tryd.underlying22 hi hz0 hz1 hz2 rfl (by omega) _ l.length (strs l) rfl HO9.out ⟨w9.heap.size, 0, none⟩ 2 2 [.string ⟨#[]⟩, .string u0] rfl rfl (two_cells _ _ _ _) (HON.out [⟨#[]⟩, u0]) (by unfold maxLen; omega) (by omega) (by simp; omega) ?_; intro v10 w10 hown10 hgr10 _; obtain ⟨a10, c10, rfl⟩ := of_row_n hown10)
  have hg610 : W6.grownBy w10 (some (G + 1)) := gb_app HG69.out hgr10 (fun k hk e => by have := (HO9.out.lt k e.symm).1; have := HS7.out; omega)
  have k10 := K6.out.grown hg610 (fun e => by have := Option.some.inj e; omega)
  have kd10 := KD6.out.grown hg610 (fun e => by have := Option.some.inj e; have := HS7.out; omega)
  have hr10 := HR6.out.gbne HNE.out hg610
  have hb10 : Below w.heap.size w w10 := HB6.out.grown hg610 HB6.out.size (fun k e => by have := Option.some.inj e; have := HG.out; omega)
  have hl10 : RdS w10 (some ⟨b, 0, none⟩) c l := by
    obtain ⟨a', c', e', hrd', _⟩ := RdV.of_row HROW6.out
    rw [strs_length] at e'
    obtain ⟨rfl, rfl⟩ : a' = some ⟨b, 0, none⟩ ∧ c' = c := by injection e' with h1 _ h3; exact ⟨h1.symm, h3.symm⟩
    exact RdV.gbne hrd' (fun _ b' o' e => by cases e; have := HS7.out; omega) hg610
  have hu10 : RdS w10 a10 c10 (l ++ [⟨#[]⟩, u0]) := by
    rw [show strs l ++ [Value.string ⟨#[]⟩, .string u0] = strs (l ++ [⟨#[]⟩, u0]) by simp [strs]] at hown10
    obtain ⟨a', c', e', hrd', _⟩ := RdV.of_row hown10
    rw [strs_length, List.length_append] at e'
    obtain ⟨rfl, rfl⟩ : a' = a10 ∧ c' = c10 := by injection e' with h1 _ h3; exact ⟨h1.symm, h3.symm⟩
    exact hrd'
  have K10 := Lib.hid k10
  have KD10 := Lib.hid kd10
  have HR10 := Lib.hid hr10
  have HB10 := Lib.hid hb10
  have HL10 := Lib.hid hl10
  have HU10 := Lib.hid hu10
  have hc10 : l.length + 2 ≤ c10 := by have := hu10.1; rw [strs_length, List.length_append] at this; simpa using this
  have hc102 : c10 ≤ 9223372036854775807 := hu10.2.1
  clear hg610 k10 kd10 hr10 hb10 hl10 hu10 hown10 hgr10
  go_loopw [32] (fun s32 wr => ∃ i : Nat, i ≤ l.length + 2 ∧ s32 = .int .i64 (i : Int) ∧ Hid (Below w10.heap.size w10 wr)) (fun s32 _ => l.length + 2 - (intOf s32).toNat)
  case atStart => exact ⟨0, by omega, rfl, Below.refl _ _⟩
  case round =>
    obtain ⟨i, him, rfl, hbl⟩ := hrel
    by_cases hlt : i < l.length + 2
    · have hlt2 : (i : Int) < (l.length : Int) + 2 := by omega
      obtain ⟨b11, o11, rfl, hx0⟩ := (HU10.out.below hbl.out).atS (i := i) (by rw [List.length_append]; exact hlt)
      obtain ⟨u, hu⟩ : ∃ u, u = (l ++ [⟨#[]⟩, u0]).getD i ByteArray.empty := ⟨_, rfl⟩
      rw [← hu] at hx0
      obtain ⟨m1, P1, m2, P2, hC1, hC2, hC3, hC4, hS1, hS2⟩ := four ⟨#[99]⟩ (some ⟨b, 0, none⟩) c l.length l u wr (HL10.out.below hbl.out) rfl (by omega) HSZ.out (HE.out.below (keep HB10.out hbl.out))
      have C1 := Lib.hid hC1
      have C2 := Lib.hid hC2
      have C3 := Lib.hid hC3
      have C4 := Lib.hid hC4
      have S1 := Lib.hid hS1
      have S2 := Lib.hid hS2
      have kd := KD10.out.below hbl.out
      have K : Hid (∀ w', Below wr.heap.size wr w' → w'.cell? ⟨w5.heap.size, 0, none⟩ = some (.string ⟨#[99]⟩) ∧ w'.cell? ⟨w5.heap.size, 1, none⟩ = some (.slice (some ⟨b, 0, none⟩) l.length c) ∧ Below wr.heap.size wr w') := fun w' hb => ⟨(kd.below hb).c0, (kd.below hb).c1, hb⟩
      clear hC1 hC2 hC3 hC4 hS1 hS2 kd hu
      go_wp2_with fail
      go_region_held3 (fun w' => w'.cell? ⟨w5.heap.size, 0, none⟩ = some (.string ⟨#[99]⟩) ∧ w'.cell? ⟨w5.heap.size, 1, none⟩ = some (.slice (some ⟨b, 0, none⟩) l.length c) ∧ Below wr.heap.size wr w')
        (first | exact K.out _ (Below.refl _ _).drew | exact K.out _ (Below.refl _ _) | exact K.out _ (keepB (by assumption) (Nat.le_refl _) v1) | exact K.out _ (keepB (by assumption) (Nat.le_refl _) v2) | exact K.out _ (keepB (by assumption) (Nat.le_refl _) v3) | exact K.out _ (keepB (by assumption) (Nat.le_refl _) v4) | exact K.out _ (keepB (by assumption) (Nat.le_refl _) v5) | exact K.out _ BV)
        (first
          | (go_at_call 14; go_split_ands; refine (C1.out _ (by assumption)).mono ?_; rintro e V1 ⟨x1, y1, rfl, r1, v1⟩)
          | (go_at_call 15; go_split_ands; refine (C2.out _ (by assumption)).mono ?_; rintro e V2 ⟨x2, y2, rfl, r2, v2⟩; have r1' := r1.below v2)
          | (go_at_call_of 13 (Value.slice x1 m1 y1); go_split_ands; refine (same_v S1.out _ _ _ _ _ r1' r2).mono ?_; rintro e V3 ⟨rfl, v3⟩)
          | (go_at_call 16; go_split_ands; refine (C3.out _ (by assumption)).mono ?_; rintro e V4 ⟨x4, y4, rfl, r4, v4⟩)
          | (go_at_call 17; go_split_ands; refine (C4.out _ (by assumption)).mono ?_; rintro e V5 ⟨x5, y5, rfl, r5, v5⟩; have r4' := r4.below v5)
          | (go_at_call_of 13 (Value.slice x4 m2 y4); go_split_ands; refine (same_v S2.out _ _ _ _ _ r4' r5).mono ?_; rintro e V6 ⟨rfl, v6⟩; have BV : Below wr.heap.size wr V6 := keepB (by assumption) (Nat.le_refl _) v6))
      all_goals
        have HBV := Lib.hid (keep hbl.out BV)
        go_wp2_with fail
        go_roundw
        case rel => exact ⟨i + 1, by omega, by go_num, HBV⟩
        case measure => simp [intOf]; omega
    · obtain rfl : i = l.length + 2 := by omega
      have hbw := keep HB10.out hbl.out
      obtain ⟨m1, P1, m2, P2, hC1, hC2, hC3, hC4, hS1, hS2⟩ := four nm a5 c5 rn R (s.extract 0 q) wr (HR10.out.below hbl.out) HRN.out (by have := HRl.out; omega) HRsz.out (HE.out.below hbw)
      have C1 := Lib.hid hC1
      have C2 := Lib.hid hC2
      have C3 := Lib.hid hC3
      have C4 := Lib.hid hC4
      have S1 := Lib.hid hS1
      have S2 := Lib.hid hS2
      have hew := HE.out.below hbw
      have CA : Hid (∀ w', Below wr.heap.size wr w' → Calls Tryd.prog 11 #[] w' fun e w2 => e = .returned (.bool true) ∧ Below w'.heap.size w' w2) := fun w' hb => awake_v w' (hew.below hb)
      have kd := K10.out.below hbl.out
      have K : Hid (∀ w', Below wr.heap.size wr w' → w'.cell? ⟨G, 0, none⟩ = some (.string nm) ∧ w'.cell? ⟨G, 1, none⟩ = some (.slice a5 rn c5) ∧ Below wr.heap.size wr w') := fun w' hb => ⟨(kd.below hb).c0, (kd.below hb).c1, hb⟩
      have HBW := Lib.hid hbw
      clear hC1 hC2 hC3 hC4 hS1 hS2 kd hbw hew
      go_wp2_with fail
      go_region_held3 (fun w' => w'.cell? ⟨G, 0, none⟩ = some (.string nm) ∧ w'.cell? ⟨G, 1, none⟩ = some (.slice a5 rn c5) ∧ Below wr.heap.size wr w')
        (first | exact K.out _ (Below.refl _ _).drew | exact K.out _ (Below.refl _ _) | exact K.out _ (keepB (by assumption) (Nat.le_refl _) v1) | exact K.out _ (keepB (by assumption) (Nat.le_refl _) v2) | exact K.out _ (keepB (by assumption) (Nat.le_refl _) v3) | exact K.out _ (keepB (by assumption) (Nat.le_refl _) v4) | exact K.out _ (keepB (by assumption) (Nat.le_refl _) v5) | exact K.out _ (keepB (by assumption) (Nat.le_refl _) v6) | exact K.out _ BW)
        (first
          | (go_at_call 14; go_split_ands; refine (C1.out _ (by assumption)).mono ?_; rintro e V1 ⟨x1, y1, rfl, r1, v1⟩)
          | (go_at_call 15; go_split_ands; refine (C2.out _ (by assumption)).mono ?_; rintro e V2 ⟨x2, y2, rfl, r2, v2⟩; have r1' := r1.below v2)
          | (go_at_call_of 13 (Value.slice x1 m1 y1); go_split_ands; refine (same_v S1.out _ _ _ _ _ r1' r2).mono ?_; rintro e V3 ⟨rfl, v3⟩)
          | (go_at_call 16; go_split_ands; refine (C3.out _ (by assumption)).mono ?_; rintro e V4 ⟨x4, y4, rfl, r4, v4⟩)
          | (go_at_call 17; go_split_ands; refine (C4.out _ (by assumption)).mono ?_; rintro e V5 ⟨x5, y5, rfl, r5, v5⟩; have r4' := r4.below v5)
          | (go_at_call_of 13 (Value.slice x4 m2 y4); go_split_ands; refine (same_v S2.out _ _ _ _ _ r4' r5).mono ?_; rintro e V6 ⟨rfl, v6⟩)
          | (go_at_call 11; go_split_ands; refine (CA.out _ (by assumption)).mono ?_; rintro e V7 ⟨rfl, v7⟩; have BW : Below wr.heap.size wr V7 := keepB (by assumption) (Nat.le_refl _) v7))
      all_goals
        have HBV := Lib.hid (keep HBW.out BW)
        go_wp2_with fail
        go_ret
        exact ⟨rfl, HBV.out⟩
end Go.Proofs.YtkodfmpaeemaiaaDoor.C6
