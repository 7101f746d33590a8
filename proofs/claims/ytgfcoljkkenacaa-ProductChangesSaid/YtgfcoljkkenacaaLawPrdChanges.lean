import Derived.Test.YtgfcoljkkenacaaPrd7
import Derived.RegionTactic
import Derived.ChangeAlike
import Derived.Deep.CutBlock
import Derived.Deep.CutRange
import Derived.Deep.RegionWith
import Derived.Deep.RegionLaw
/- ProductChanges: the walk. -/
namespace Go.Proofs.Ytgfcoljkkenacaa.P9
open Go.RowKit Go.Sort C6

set_option maxHeartbeats 16000000 in
set_option maxRecDepth 100000 in
theorem Changes_k (k : Nat) (hk : k = 7 ∨ k = 12) (lg : Bool) (hlg : lg = decide (k = 12)) (z0 at0 by0 : Int) (hz0' : -9223372036854775808 ≤ z0) (hz1' : z0 ≤ 9223372036854775807) (w : World) :
    Calls Try.prog 4 #[.int .i64 z0, .bool lg, .int .i64 at0, .int .i64 by0] w fun e w' => e = .returned (.bool true) ∧ Below w.heap.size w w' := by
  obtain ⟨i0, hi, hz0, hz1, hz2⟩ := info_parts infoB
  have hk12 : k ≤ 12 := by omega
  have hk7 : 7 ≤ k := by omega
  have HK : Hid (k = 7 ∨ k = 12) := hk
  have HLG : Hid ((lg = false ∧ k = 7) ∨ (lg = true ∧ k = 12)) := by
    rcases hk with rfl | rfl
    · exact .inl ⟨by rw [hlg]; decide, rfl⟩
    · exact .inr ⟨by rw [hlg]; decide, rfl⟩
  have W1 := World.ownsRow_lit (base := w.heap.size) (size := 1) (e := 5) w #[] 0 (Nat.le_refl _) (by decide) rfl
  have OW1 : Hid (OwB (w.alloc (.cells #[] 5)) w.heap.size (some ⟨w.heap.size, 0, none⟩) 0 0 []) := W1
  clear hk hlg W1
  go_enter Try.func4, Try.ntmps4
  go_upto_if 19 with fail
  go_cut [10] from 20 to 20 (fun v10 (wx : World) => v10 = .int .i64 (k : Int) ∧ wx = w.alloc (.cells #[] 5))
  case first =>
    rcases HLG.out with ⟨rfl, rfl⟩ | ⟨rfl, rfl⟩
    · go_wp2_with fail
      go_meet
      exact ⟨rfl, rfl⟩
    · go_wp2_with fail
      go_meet
      exact ⟨rfl, rfl⟩
  case rest =>
    obtain ⟨rfl, rfl⟩ := hcut
    go_wp2_with fail
    go_loopw [0, 9, 21] (fun s0 s9 s21 (wr : World) => ∃ (i c : Nat) (z : Int) (a : Option Addr) (l : List UInt8), i ≤ k ∧ s0 = .int .i64 z ∧ -9223372036854775808 ≤ z ∧ z ≤ 9223372036854775807 ∧ s9 = .slice a i c ∧ s21 = .int .i64 (i : Int) ∧ Hid (l.all dgt = true) ∧ Hid (OwB wr w.heap.size a i c l) ∧ Hid (Below w.heap.size w wr)) (fun _ _ s21 _ => k - (intOf s21).toNat)
    case atStart => exact ⟨0, 0, z0, _, [], by omega, rfl, hz0', hz1', rfl, rfl, rfl, OW1, below_new _ _⟩
    case round =>
      obtain ⟨i, c, z, a, l, hik, rfl, hzl, hzu, rfl, rfl, hdg, hown, hbl⟩ := hrel
      by_cases hlt : i < k
      · have hlt2 : (i : Int) < (k : Int) := by omega
        obtain ⟨t, ht⟩ : ∃ t, Int.tdiv z 7 = t := ⟨_, rfl⟩
        have htb : -1317624576693539402 ≤ t ∧ t ≤ 1317624576693539402 := by
          rcases Int.le_total 0 z with h | h
          · rw [Int.tdiv_eq_ediv_of_nonneg h] at ht; omega
          · obtain ⟨y, hy⟩ : ∃ y, z = -y := ⟨-z, by omega⟩
            rw [hy, Int.neg_tdiv, Int.tdiv_eq_ediv_of_nonneg (by omega)] at ht; omega
        have htw : IntKind.i64.wrap t = t := IntWalk.i64_in _ (by omega)
        have htw2 : IntKind.i64.wrap (t + 3) = t + 3 := IntWalk.i64_in _ (by omega)
        obtain ⟨htb1, htb2⟩ := htb
        go_wp2_with fail
        refine (Fold_r z 10 (by omega) (by omega) _ 10 rfl).mono ?_; rintro e w1 ⟨r, rfl, hr, rfl⟩
        obtain ⟨u, hu⟩ : ∃ u : Nat, (48 : Int) + (r : Int) = (u : Int) := ⟨48 + r, by omega⟩
        have hu57 : u ≤ 57 := by omega
        have huw : IntKind.u8.wrap (u : Int) = (u : Int) := by rw [IntKind.wrap_u8]; omega
        have HX : Hid (∃ x : UInt8, (x.toNat : Int) = (u : Int) ∧ dgt x = true) := ⟨UInt8.ofNat u, by rw [UInt8.toNat_ofNat']; omega, by rw [dgt_iff, UInt8.toNat_ofNat']; omega⟩
        obtain ⟨x, hx, hxd⟩ := HX.out
        have HXV : Hid (Value.int .u8 (u : Int) = .int .u8 (x.toNat : Int)) := by unfold Hid; rw [hx]
        have HD2 : Hid ((l ++ [x]).all dgt = true) := by unfold Hid; rw [List.all_append, hdg.out]; simp [hxd]
        have HOA : Hid ((wr.alloc (.cells #[.int .u8 (u : Int)] 5)).ownsRow w.heap.size 5 1 (.slice a i c) i (byv l)) := hown.out.alloc _
        have HBA : Hid (Below w.heap.size w (wr.alloc (.cells #[.int .u8 (u : Int)] 5))) := keep hbl.out (below_new _ _)
        clear HX hx hxd hr
        go_wp2_with (at_builtin; refine wpList_append_own _ rfl _ _ 26 rfl w.heap.size 5 i0 (.int .u8 0) 1 1 Try.underlying26 hi hz0 hz1 hz2 rfl (by decide) _ i _ rfl HOA.out ⟨wr.heap.size, 0, none⟩ 1 1 [.int .u8 (u : Int)] rfl rfl (C6.one_cell _ _ _) (by intro v hv; simp at hv; subst hv; rfl) (by unfold maxLen; omega) (by omega) (by have := HBA.out.size; omega) ?_; intro v3 w3 hown3 hgr3 _; obtain ⟨a3, c3, rfl⟩ := of_row_n hown3)
        have B3 : Hid (Below w.heap.size w w3) := HBA.out.grown hgr3 HBA.out.size (fun k e => (HOA.out.lt k e).1)
        have O3 : Hid (OwB w3 w.heap.size a3 (i + 1) c3 (l ++ [x])) := by
          unfold Hid OwB
          rw [byv_append, show byv [x] = [.int .u8 (u : Int)] from by rw [HXV.out]; rfl]
          exact hown3
        clear hown3 hgr3
        go_wp2_with fail
        go_roundw
        case rel => exact ⟨i + 1, c3, t + 3, a3, l ++ [x], by omega, rfl, by omega, by omega, rfl, by go_num, HD2, O3, B3⟩
        case measure => first | (simp [intOf]; done) | (simp [intOf]; omega)
      · obtain rfl : i = k := by omega
        have hlt2 : ¬ (i : Int) < (i : Int) := by omega
        have hlen := hown.out.len
        obtain ⟨hc1, hc2⟩ := hown.out.cap
        obtain ⟨g, rfl, hg, hgb, hcs⟩ := hown.out.form (by omega)
        have htext := hown.out.text
        obtain ⟨d, hd⟩ : ∃ d, d = ck l := ⟨_, rfl⟩
        have hok : ckOk l = true := ckOk_mk (by rw [hlen]; exact HK.out) hdg.out
        have hd9 : d ≤ 9 := by rw [hd]; exact ck_lt _
        have CK : Hid (∀ w, Calls Try.prog 9 #[.string ⟨l.toArray⟩] w fun e w' => e = .returned (.tuple #[.int .i64 (d : Int), .bool true]) ∧ Below w.heap.size w w') := fun w => by
          have hsz : (⟨l.toArray⟩ : ByteArray).size ≤ 1000 := by
            have : (⟨l.toArray⟩ : ByteArray).size = l.length := by simp [ByteArray.size]
            rw [this, hlen]; omega
          have := CheckDigit_v ⟨l.toArray⟩ hsz w
          rw [show (⟨l.toArray⟩ : ByteArray).data.toList = l by simp, ← hd, hok] at this
          exact this
        obtain ⟨u, hu⟩ : ∃ u : Nat, (48 : Int) + (d : Int) = (u : Int) := ⟨48 + d, by omega⟩
        have hu57 : u ≤ 57 := by omega
        have huw : IntKind.u8.wrap (u : Int) = (u : Int) := by rw [IntKind.wrap_u8]; omega
        obtain ⟨x, hx, hxd⟩ : ∃ x : UInt8, x.toNat = u ∧ dgt x = true := ⟨UInt8.ofNat u, by rw [UInt8.toNat_ofNat']; omega, by rw [dgt_iff, UInt8.toNat_ofNat']; omega⟩
        obtain ⟨D, hD⟩ : ∃ D, D = l ++ [x] := ⟨_, rfl⟩
        have HDl : Hid (D.length = i + 1) := by unfold Hid; rw [hD]; simp [hlen]
        have HDa : Hid (D.all dgt = true) := by unfold Hid; rw [hD, List.all_append, hdg.out]; simp [hxd]
        have HDv : Hid (vid D = true) := by
          unfold Hid
          rw [hD, vid_snoc, hok, hx, Bool.true_and]
          exact decide_eq_true (by omega)
        have HDb : Hid (byv D = byv l ++ [.int .u8 (u : Int)]) := by unfold Hid; rw [hD, byv_append, ← hx]; rfl
        have HOB := Lib.hid hown
        have NB : Hid (∀ j v, (byv l)[j]? = some v → wr.cell? ((⟨g, 0, none⟩ : Addr).add j) = some v) := hcs
        have HLEN := Lib.hid hlen
        have htx := Lib.hid htext
        clear hdg hok hd hx hxd hD hcs hlen hown
        go_wp2_with fail
        refine (CK.out _).mono ?_; rintro e w1 ⟨rfl, b1⟩
        have B1 := Lib.hid (keep hbl.out b1)
        have OE : Hid ((w1.alloc (.cells #[] 5)).ownsRow w.heap.size 5 1 (.slice (some ⟨w1.heap.size, 0, none⟩) 0 0) 0 []) := World.ownsRow_lit w1 #[] 0 B1.out.size (by decide) rfl
        have N1 : Hid (∀ j v, (byv l)[j]? = some v → (w1.alloc (.cells #[] 5)).cell? ((⟨g, 0, none⟩ : Addr).add j) = some v) := fun j v hj => by
          have h1 := NB.out j v hj
          exact ((keep b1 (below_new w1 _)).cell (World.block_lt_of_cell? _ _ h1)).trans h1
        have BE : Hid (Below w.heap.size w (w1.alloc (.cells #[] 5))) := keep B1.out (below_new _ _)
        have hbl1 : (byv l).length = i * 1 := by rw [byv_length, HLEN.out]; omega
        clear b1 htext
        go_wp2_with (first
          | (at_builtin; refine wpList_append_own _ rfl _ _ 26 rfl w.heap.size 5 i0 (.int .u8 0) 1 1 Try.underlying26 hi hz0 hz1 hz2 rfl (by decide) _ i _ rfl O2.out ⟨w2.heap.size, 0, none⟩ 1 1 [.int .u8 (u : Int)] rfl rfl (C6.one_cell _ _ _) (by intro v hv; simp at hv; subst hv; rfl) (by unfold maxLen; omega) (by omega) (by have := BA2.out.size; omega) ?_; intro v3 w3 hown3 hgr3 _; obtain ⟨a3, c3, rfl⟩ := of_row_n hown3; have O3 : Hid (OwB w3 w.heap.size a3 (i + 1) c3 D) := by {unfold Hid OwB; rw [HDb.out]; exact hown3}; obtain ⟨g3, rfl, hg3, hg3b, hcs3⟩ := O3.out.form (by omega); have htx3 := O3.out.text; obtain ⟨hc31, hc32⟩ := O3.out.cap)
          | (at_builtin; refine wpList_append_own _ rfl _ _ 26 rfl w.heap.size 5 i0 (.int .u8 0) 1 1 Try.underlying26 hi hz0 hz1 hz2 rfl (by decide) _ 0 _ rfl OE.out ⟨g, 0, none⟩ i c (byv l) rfl hbl1 N1.out (byv_one' l) (by unfold maxLen; omega) (by omega) (by have := BE.out.size; omega) ?_; intro v2 w2 hown2 hgr2 _; rw [Nat.zero_add, List.nil_append] at hown2; obtain ⟨a2, c2, rfl⟩ := of_row_n hown2; have B2 : Hid (Below w.heap.size w w2) := BE.out.grown hgr2 BE.out.size (fun k e => (OE.out.lt k e).1); have O2 : Hid ((w2.alloc (.cells #[.int .u8 (u : Int)] 5)).ownsRow w.heap.size 5 1 (.slice a2 i c2) i (byv l)) := hown2.alloc _; have BA2 : Hid (Below w.heap.size w (w2.alloc (.cells #[.int .u8 (u : Int)] 5))) := keep B2.out (below_new _ _)))
        have B3 : Hid (Below w.heap.size w w3) := BA2.out.grown hgr3 BA2.out.size (fun k e => (O2.out.lt k e).1)
        have N3 : Hid (∀ j v, (byv D)[j]? = some v → w3.cell? ((⟨g3, 0, none⟩ : Addr).add j) = some v) := hcs3
        have VI : Hid (∀ (L : List UInt8), L.length ≤ 1000 → ∀ w, Calls Try.prog 11 #[.string ⟨L.toArray⟩] w fun e w' => e = .returned (.bool (vid L)) ∧ Below w.heap.size w w') := fun L hL w => by
          have := ValidID_v ⟨L.toArray⟩ (by simpa [ByteArray.size] using hL) w
          rwa [show (⟨L.toArray⟩ : ByteArray).data.toList = L by simp] at this
        have hDl1000 : D.length ≤ 1000 := by rw [HDl.out]; omega
        have VD := VI.out D hDl1000
        rw [HDv.out] at VD
        have VD2 := Lib.hid VD
        clear hown3 hgr3 hgr2 hown2 hcs3 VD
        refine (VD2.out _).mono ?_; rintro e w5 ⟨rfl, b5⟩
        have B5 := Lib.hid (keep B3.out b5)
        have O5 := Lib.hid (own_below O3.out b5)
        have N5 : Hid (∀ j v, (byv D)[j]? = some v → w5.cell? ((⟨g3, 0, none⟩ : Addr).add j) = some v) := fun j v hj => by
          have h1 := N3.out j v hj
          exact (b5.cell (World.block_lt_of_cell? _ _ h1)).trans h1
        have hg35 : g3 < w5.heap.size := Nat.lt_of_lt_of_le hg3 b5.size
        clear b5
        go_wp2_with fail
        refine (Fold_r at0 (i + 1) (by omega) (by omega) _ _ (by omega)).mono ?_; rintro e w6 ⟨p, rfl, hp, rfl⟩
        have hpI : (p : Int) < (i : Int) + 1 := by omega
        have hpc : p < c3 := by omega
        -- a copy, one digit changed
        have OF : Hid ((w5.alloc (.cells #[] 5)).ownsRow w5.heap.size 5 1 (.slice (some ⟨w5.heap.size, 0, none⟩) 0 0) 0 []) := World.ownsRow_lit w5 #[] 0 (Nat.le_refl _) (by decide) rfl
        have N6 : Hid (∀ j v, (byv D)[j]? = some v → (w5.alloc (.cells #[] 5)).cell? ((⟨g3, 0, none⟩ : Addr).add j) = some v) := fun j v hj => by
          have h1 := N5.out j v hj
          exact ((below_new w5 _).cell (World.block_lt_of_cell? _ _ h1)).trans h1
        have BF : Hid (Below w5.heap.size w5 (w5.alloc (.cells #[] 5))) := below_new _ _
        have hbD : (byv D).length = (i + 1) * 1 := by rw [byv_length, HDl.out]; omega
        go_wp2_with (at_builtin; refine wpList_append_own _ rfl _ _ 26 rfl w5.heap.size 5 i0 (.int .u8 0) 1 1 Try.underlying26 hi hz0 hz1 hz2 rfl (by decide) _ 0 _ rfl OF.out ⟨g3, 0, none⟩ (i + 1) c3 (byv D) rfl hbD N6.out (byv_one' D) (by unfold maxLen; omega) (by omega) (by have := BF.out.size; omega) ?_; intro v7 w7 hown7 hgr7 _; rw [Nat.zero_add, List.nil_append] at hown7; obtain ⟨a7, c7, rfl⟩ := of_row_n hown7; have B7 : Hid (Below w5.heap.size w5 w7) := BF.out.grown hgr7 BF.out.size (fun k e => (OF.out.lt k e).1); have O7 : Hid (OwB w7 w5.heap.size a7 (i + 1) c7 D) := hown7; obtain ⟨g7, rfl, hg7, hg7b, hcs7⟩ := O7.out.form (by omega); obtain ⟨hc71, hc72⟩ := O7.out.cap)
        have O7id : Hid (OwB w7 w.heap.size (some ⟨g3, 0, none⟩) (i + 1) c3 D) := own_below O5.out B7.out
        obtain ⟨kb, hkb⟩ : ∃ kb, kb = (D.getD p 0).toNat := ⟨_, rfl⟩
        have y0 := O7id.out.at hp
        have q0 := O7.out.at hp
        have q1 := O7.out.frozenAt p
        have hkd := dgt_iff.1 (getD_all HDa.out (by rw [HDl.out]; exact hp))
        rw [← hkb] at y0 q0 hkd
        obtain ⟨hk48, hk57⟩ := hkd
        obtain ⟨v, hv⟩ : ∃ v : Nat, (kb : Int) - 48 = (v : Int) := ⟨kb - 48, by omega⟩
        have hv9 : v ≤ 9 := by omega
        have hvw : IntKind.u8.wrap (v : Int) = (v : Int) := by rw [IntKind.wrap_u8]; omega
        have HKB := Lib.hid hkb
        have hg37 : g7 ≠ g3 := by omega
        have hp7 : p < c7 := by omega
        clear hkb hown7 hgr7 hcs7
        go_upto_region 18 with fail
        go_cut [] from 69 to 84 (fun (wx : World) => ∃ X : UInt8, Hid (dgt X = true ∧ dv X ≠ dv (D.getD p 0)) ∧ Hid (OwB wx w5.heap.size (some ⟨g7, 0, none⟩) (i + 1) c7 (D.set p X)) ∧ Hid (OwB wx w.heap.size (some ⟨g3, 0, none⟩) (i + 1) c3 D) ∧ Hid (Below w5.heap.size w5 wx))
        case first =>
          go_wp2_with fail
          go_region_law (go_simp; (go_at_call 14; refine (Fold_r by0 9 (by omega) (by omega) _ 9 rfl).mono ?_; rintro e w8 ⟨r, rfl, hr, rfl⟩; obtain ⟨s, hs⟩ : ∃ s : Nat, (v : Int) + 1 + (r : Int) = (s : Int) := ⟨v + 1 + r, by omega⟩; obtain ⟨t, ht⟩ : ∃ t : Nat, Int.tmod (s : Int) 10 = (t : Int) := ⟨s % 10, by {rw [Int.tmod_eq_emod_of_nonneg (by omega)]; omega}⟩; have ht2 : t = s % 10 := (by {rw [Int.tmod_eq_emod_of_nonneg (by omega)] at ht; omega}); obtain ⟨u2, hu2⟩ : ∃ u2 : Nat, (48 : Int) + (t : Int) = (u2 : Int) := ⟨48 + t, by omega⟩; have hu2b : u2 ≤ 57 := (by omega); have hu2w : IntKind.u8.wrap (u2 : Int) = (u2 : Int) := (by {rw [IntKind.wrap_u8]; omega}); have HT2 := Lib.hid ht2; have HR := Lib.hid hr; clear ht2 hr))
          all_goals
            have h48 : 48 ≤ u2 := by omega
            have hX : (UInt8.ofNat u2).toNat = u2 := by rw [UInt8.toNat_ofNat']; omega
            have hset := O7.out.set hp (UInt8.ofNat u2)
            rw [hX] at hset
            have hid := O7id.out.kept (gb_set w7 g7 p (.int .u8 (u2 : Int))) (.inr (by simp [Value.ownBlock]; omega))
            have hbb : Below w5.heap.size w5 (w7.setCell ⟨g7, p, none⟩ (.int .u8 (u2 : Int))) := B7.out.setCell hg7b _
            have w1' : IntKind.i64.wrap (v : Int) = (v : Int) := IntWalk.i64_in _ (by omega)
            have w2' : IntKind.i64.wrap ((v : Int) + 1) = (v : Int) + 1 := IntWalk.i64_in _ (by omega)
            have w3' : IntKind.i64.wrap (s : Int) = (s : Int) := IntWalk.i64_in _ (by have := HR.out; omega)
            have w4' : IntKind.i64.wrap (u2 : Int) = (u2 : Int) := IntWalk.i64_in _ (by omega)
            simp only [w1', w2', hs, w3', ht, hu2, w4', hu2w]
            go_wp2_with fail
            go_meet
            refine ⟨UInt8.ofNat u2, ⟨by rw [dgt_iff, hX]; omega, ?_⟩, World.ownsRow.drew hset, World.ownsRow.drew hid, hbb.drew⟩
            have e1 : dv (D.getD p 0) = v := by unfold dv; rw [← HKB.out]; omega
            have e2 : dv (UInt8.ofNat u2) = t := by unfold dv; rw [hX]; omega
            rw [e1, e2]
            have := HT2.out
            have := HR.out
            omega
        case rest =>
          obtain ⟨X, hX, hoth, hid, hbb⟩ := hcut
          have htx8 := hoth.out.text
          have hvf : vid (D.set p X) = false := vid_changed (by rw [HDl.out]; have := HK.out; omega) HDa.out HDv.out (by rw [HDl.out]; exact hp) hX.out.1 hX.out.2
          have V2 := VI.out (D.set p X) (by rw [List.length_set]; exact hDl1000)
          rw [hvf] at V2
          have V3 := Lib.hid V2
          clear V2 hvf
          go_wp2_with fail
          refine (V3.out _).mono ?_; rintro e w9 ⟨rfl, b9⟩
          have B9 := Lib.hid (hbb.out.trans (b9.mono hbb.out.size))
          have O9 := Lib.hid (own_below hid.out b9)
          clear b9 htx8 hoth hid hbb y0 q0 q1
          have hi1 : ((i : Int) + 1) - 1 = (i : Int) := by omega
          go_wp2_with fail
          refine (Fold_r at0 i (by omega) (by omega) _ _ (by omega)).mono ?_; rintro e w10 ⟨p2, rfl, hp2, rfl⟩
          have hp2I : (p2 : Int) < (i : Int) := by omega
          have hp2c : p2 + 1 < c3 := by omega
          have hp2I1 : (p2 : Int) + 1 < (i : Int) + 1 := by omega
          have OG : Hid ((w9.alloc (.cells #[] 5)).ownsRow w9.heap.size 5 1 (.slice (some ⟨w9.heap.size, 0, none⟩) 0 0) 0 []) := World.ownsRow_lit w9 #[] 0 (Nat.le_refl _) (by decide) rfl
          have NG : Hid (∀ j v, (byv D)[j]? = some v → (w9.alloc (.cells #[] 5)).cell? ((⟨g3, 0, none⟩ : Addr).add j) = some v) := fun j v hj => by
            have h1 := O9.out.cells (g := g3) rfl j v hj
            exact ((below_new w9 _).cell (World.block_lt_of_cell? _ _ h1)).trans h1
          have BG : Hid (Below w9.heap.size w9 (w9.alloc (.cells #[] 5))) := below_new _ _
          have hg39 : g3 < w9.heap.size := (O9.out.lt g3 rfl).2
          go_wp2_with (at_builtin; refine wpList_append_own _ rfl _ _ 26 rfl w9.heap.size 5 i0 (.int .u8 0) 1 1 Try.underlying26 hi hz0 hz1 hz2 rfl (by decide) _ 0 _ rfl OG.out ⟨g3, 0, none⟩ (i + 1) c3 (byv D) rfl hbD NG.out (byv_one' D) (by unfold maxLen; omega) (by omega) (by have := BG.out.size; omega) ?_; intro v11 w11 hown11 hgr11 _; rw [Nat.zero_add, List.nil_append] at hown11; obtain ⟨a11, c11, rfl⟩ := of_row_n hown11; have B11 : Hid (Below w9.heap.size w9 w11) := BG.out.grown hgr11 BG.out.size (fun k e => (OG.out.lt k e).1); have O11 : Hid (OwB w11 w9.heap.size a11 (i + 1) c11 D) := hown11; obtain ⟨g11, rfl, hg11, hg11b, hcs11⟩ := O11.out.form (by omega); obtain ⟨hc111, hc112⟩ := O11.out.cap)
          have O11id : Hid (OwB w11 w.heap.size (some ⟨g3, 0, none⟩) (i + 1) c3 D) := own_below O9.out B11.out
          obtain ⟨ka, hka⟩ : ∃ ka, ka = D.getD p2 0 := ⟨_, rfl⟩
          obtain ⟨kc, hkc⟩ : ∃ kc, kc = D.getD (p2 + 1) 0 := ⟨_, rfl⟩
          have y0 := O11id.out.at (i := p2) (by omega)
          have y1 := O11id.out.at (i := p2 + 1) (by omega)
          have q0 := O11.out.at (i := p2) (by omega)
          have q1 := O11.out.at (i := p2 + 1) (by omega)
          have f0 := O11.out.frozenAt p2
          have f1 := O11.out.frozenAt (p2 + 1)
          have hda := dgt_iff.1 (getD_all HDa.out (show p2 < D.length by rw [HDl.out]; omega))
          have hdc := dgt_iff.1 (getD_all HDa.out (show p2 + 1 < D.length by rw [HDl.out]; omega))
          have hsw := vid_swapped (l := D) (i := p2) (by rw [HDl.out]; have := HK.out; omega) HDa.out HDv.out (by rw [HDl.out]; omega)
          rw [← hka] at y0 q0 hda hsw
          rw [← hkc] at y1 q1 hdc hsw
          obtain ⟨A, hA⟩ : ∃ A, ka.toNat = A := ⟨_, rfl⟩
          obtain ⟨C, hC⟩ : ∃ C, kc.toNat = C := ⟨_, rfl⟩
          have eA : dv ka = A - 48 := by unfold dv; rw [hA]
          have eC : dv kc = C - 48 := by unfold dv; rw [hC]
          rw [eA, eC] at hsw
          rw [hA] at y0 q0 hda
          rw [hC] at y1 q1 hdc
          have SW := Lib.hid hsw
          have hset : OwB ((w11.setCell ⟨g11, p2, none⟩ (.int .u8 (C : Int))).setCell ⟨g11, p2 + 1, none⟩ (.int .u8 (A : Int))) w9.heap.size (some ⟨g11, 0, none⟩) (i + 1) c11 ((D.set p2 kc).set (p2 + 1) ka) := by
            have h1 := O11.out.set (i := p2) (by omega) kc
            rw [hC] at h1
            have h2 := h1.set (i := p2 + 1) (by omega) ka
            rw [hA] at h2
            exact h2
          have HSET := Lib.hid hset
          have hid12 : Hid (OwB ((w11.setCell ⟨g11, p2, none⟩ (.int .u8 (C : Int))).setCell ⟨g11, p2 + 1, none⟩ (.int .u8 (A : Int))) w.heap.size (some ⟨g3, 0, none⟩) (i + 1) c3 D) := (O11id.out.kept (gb_set _ _ _ _) (.inr (by simp [Value.ownBlock]; omega))).kept (gb_set _ _ _ _) (.inr (by simp [Value.ownBlock]; omega))
          have hbb12 : Hid (Below w9.heap.size w9 ((w11.setCell ⟨g11, p2, none⟩ (.int .u8 (C : Int))).setCell ⟨g11, p2 + 1, none⟩ (.int .u8 (A : Int)))) := (B11.out.setCell hg11b _).setCell hg11b _
          have hgne : g11 ≠ g3 := by omega
          have hp2c11 : p2 + 1 < c11 := by omega
          obtain ⟨hda1, hda2⟩ := hda
          obtain ⟨hdc1, hdc2⟩ := hdc
          have HKA := Lib.hid hka
          have HKC := Lib.hid hkc
          have HAA := Lib.hid hA
          have HCC := Lib.hid hC
          clear hka hkc hA hC eA eC hsw hset hown11 hgr11 hcs11
          go_wp2_with fail
          go_region
          all_goals
            obtain ⟨W12, hW12⟩ : ∃ W : World, W = ((w11.setCell ⟨g11, p2, none⟩ (.int .u8 (C : Int))).setCell ⟨g11, p2 + 1, none⟩ (.int .u8 (A : Int))).drew := ⟨_, rfl⟩
            have O12 : Hid (OwB W12 w9.heap.size (some ⟨g11, 0, none⟩) (i + 1) c11 ((D.set p2 kc).set (p2 + 1) ka)) := by rw [hW12]; exact World.ownsRow.drew HSET.out
            have I12 : Hid (OwB W12 w.heap.size (some ⟨g3, 0, none⟩) (i + 1) c3 D) := by rw [hW12]; exact World.ownsRow.drew hid12.out
            have B12 : Hid (Below w9.heap.size w9 W12) := by rw [hW12]; exact hbb12.out.drew
            go_wp2_with fail
            rw [← hW12]
            have y0 : W12.cell? ⟨g3, p2, none⟩ = some (.int .u8 (A : Int)) := by
              rw [hW12]
              have := hid12.out.at (i := p2) (by omega)
              rw [← HKA.out, HAA.out] at this
              exact this
            have y1 : W12.cell? ⟨g3, p2 + 1, none⟩ = some (.int .u8 (C : Int)) := by
              rw [hW12]
              have := hid12.out.at (i := p2 + 1) (by omega)
              rw [← HKC.out, HCC.out] at this
              exact this
            clear hW12 HSET hid12 hbb12
            obtain ⟨G, hG⟩ : ∃ G : Int, (A : Int) - (C : Int) = G := ⟨_, rfl⟩
            have fin : ∀ bv : Bool, vid ((D.set p2 kc).set (p2 + 1) ka) = bv → ((bv = true ∧ (G = 0 ∨ (¬ G = 0 ∧ G = 5) ∨ (¬ G = 0 ∧ ¬ G = 5 ∧ G = -5))) ∨ (bv = false ∧ ¬ G = 0 ∧ ¬ G = 5 ∧ ¬ G = -5)) := by
              intro bv hbv
              have h := SW.out
              rw [hbv] at h
              cases bv with
              | true => have := h.1 rfl; exact .inl ⟨rfl, by omega⟩
              | false =>
                have h2 : ¬ (A - 48 = C - 48 ∨ A - 48 = C - 48 + 5 ∨ A - 48 + 5 = C - 48) := fun hc => by have := h.2 hc; cases this
                exact .inr ⟨rfl, by omega, by omega, by omega⟩
            obtain ⟨bv, hbv⟩ : ∃ bv, vid ((D.set p2 kc).set (p2 + 1) ka) = bv := ⟨_, rfl⟩
            have hfin := fin bv hbv
            have V4 := VI.out ((D.set p2 kc).set (p2 + 1) ka) (by rw [List.length_set, List.length_set]; exact hDl1000)
            rw [hbv] at V4
            have V5 := Lib.hid V4
            have htx12 := O12.out.text
            clear V4 hbv fin
            go_quiet (fail)
            have htx13 : (convert 26 9 (.slice (some ⟨g11, 0, none⟩) (i + 1) c11)).run Try.prog (W12.drewN nq) = .ok (.string ⟨((D.set p2 kc).set (p2 + 1) ka).toArray⟩) (W12.drewN nq) := OwB.text (w := W12.drewN nq) (l := (D.set p2 kc).set (p2 + 1) ka) (show OwB W12 _ _ _ _ _ from O12.out)
            have BF2 : Hid (Below w.heap.size w (W12.drewN nq)) := (keep (keep B5.out B9.out) B12.out).trans ⟨rfl, rfl, rfl, Nat.le_refl _, fun _ _ => rfl⟩
            clear htx12
            rcases hfin with ⟨rfl, h | ⟨h1, h⟩ | ⟨h1, h2, h⟩⟩ | ⟨rfl, h1, h2, h3⟩
            · subst h
              go_wp2_with fail
              refine (V5.out _).mono ?_; rintro e w13 ⟨rfl, b13⟩
              have B13 := Lib.hid (keep BF2.out b13)
              clear b13
              go_wp2_with fail
              refine (awake_v _).mono ?_; rintro e w14 ⟨rfl, b14⟩
              have B14 := Lib.hid (keep B13.out b14)
              clear b14
              go_wp2_with fail
              go_ret
              exact ⟨rfl, B14.out⟩
            · subst h
              go_wp2_with fail
              refine (V5.out _).mono ?_; rintro e w13 ⟨rfl, b13⟩
              have B13 := Lib.hid (keep BF2.out b13)
              clear b13
              go_wp2_with fail
              refine (awake_v _).mono ?_; rintro e w14 ⟨rfl, b14⟩
              have B14 := Lib.hid (keep B13.out b14)
              clear b14
              go_wp2_with fail
              go_ret
              exact ⟨rfl, B14.out⟩
            · subst h
              go_wp2_with fail
              refine (V5.out _).mono ?_; rintro e w13 ⟨rfl, b13⟩
              have B13 := Lib.hid (keep BF2.out b13)
              clear b13
              go_wp2_with fail
              refine (awake_v _).mono ?_; rintro e w14 ⟨rfl, b14⟩
              have B14 := Lib.hid (keep B13.out b14)
              clear b14
              go_wp2_with fail
              go_ret
              exact ⟨rfl, B14.out⟩
            · have g1 : (G == 0) = false := beq_eq_false_iff_ne.2 h1
              have g2 : (G == 5) = false := beq_eq_false_iff_ne.2 h2
              have g3' : (G == -5) = false := beq_eq_false_iff_ne.2 h3
              clear h1 h2 h3
              go_wp2_with fail
              refine (V5.out _).mono ?_; rintro e w13 ⟨rfl, b13⟩
              have B13 := Lib.hid (keep BF2.out b13)
              clear b13
              go_wp2_with fail
              refine (awake_v _).mono ?_; rintro e w14 ⟨rfl, b14⟩
              have B14 := Lib.hid (keep B13.out b14)
              clear b14
              go_wp2_with fail
              go_ret
              exact ⟨rfl, B14.out⟩

theorem ProductChanges_any (z0 : Int) (lg : Bool) (at0 by0 : Int) (w : World) (h0 : -9223372036854775808 ≤ z0) (h1 : z0 ≤ 9223372036854775807) :
    Calls Try.prog 4 #[.int .i64 z0, .bool lg, .int .i64 at0, .int .i64 by0] w fun e w' => e = .returned (.bool true) ∧ Below w.heap.size w w' := by
  cases lg with
  | false => exact Changes_k 7 (.inl rfl) false rfl z0 at0 by0 h0 h1 w
  | true => exact Changes_k 12 (.inr rfl) true rfl z0 at0 by0 h0 h1 w
end Go.Proofs.Ytgfcoljkkenacaa.P9
