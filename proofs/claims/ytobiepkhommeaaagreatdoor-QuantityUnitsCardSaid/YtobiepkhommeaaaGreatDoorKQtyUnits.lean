import Derived.Test.YtobiepkhommeaaaGreatDoorQtysB
import Derived.Test.YtobiepkhommeaaaGreatDoorNum
import Derived.Test.YtobiepkhommeaaaGreatDoorPrts
import Derived.Deep.CutRange
import Derived.Test.YtobiepkhommeaaaGreatDoorFacts8g
/- QuantityUnits: the walk. -/
namespace Go.Proofs.YtobiepkhommeaaaGreatDoor
open Go.RowKit

theorem dec_pow {V : Nat} (hV : 0 < V) : ∀ m : Nat, Lib.decDigits (V * 10 ^ m) = Lib.decDigits V ++ List.replicate m 48
  | 0 => by simp
  | m + 1 => by
    rw [Nat.pow_succ, ← Nat.mul_assoc, dec_ten (Nat.mul_pos hV (Nat.pow_pos (by omega))), dec_pow hV m, List.append_assoc, ← List.replicate_succ']
theorem reads1 {u : Un} (hu : u ∈ cU) {V : Nat} (h1 : 1 ≤ V) (h2 : V * u.size.toNat ≤ 1099511627776) (hV : V < 10 ^ 30) :
    rE (Lib.decDigits V ++ 32 :: u.name) = 0 ∧ rD (Lib.decDigits V ++ 32 :: u.name) = u.dim ∧ rC (Lib.decDigits V ++ 32 :: u.name) = 1 ∧ rA (Lib.decDigits V ++ 32 :: u.name) = ((V * u.size.toNat : Nat) : Int) := by
  obtain ⟨z1, z2, z3, z4, z5, z6⟩ := un_size hu
  obtain ⟨e1, e2, e3⟩ := qtext_reads (c := 1) (a := V * u.size.toNat) (k := 0) (V := V) (u := u) (l := Lib.decDigits V ++ 32 :: u.name) (by
    unfold qtext fbody
    rw [if_neg (by omega), if_neg (by omega)]) hu (by omega) (by omega) (by simp) (by omega) hV h2
  have hp : 1 ≤ V * u.size.toNat := Nat.mul_pos h1 (by omega)
  have he : pE (Lib.decDigits V ++ 32 :: u.name) = 0 := by
    unfold pE
    rw [e1, e2, e3]
    refine qwhy_zero.2 ⟨z3, z4, by omega, by omega, by omega, ?_⟩
    rw [show ((1 : Nat) : Int) = 1 from rfl, Int.ediv_one]
    omega
  obtain ⟨f1, f2, f3, f4⟩ := r_ok he
  exact ⟨f1, by rw [f2, e1], by rw [f3, e2]; rfl, by rw [f4, e3]⟩
/-- what a row of the table promises of the texts with the number k -/
def UPair (w : World) (k : Nat) (X Y : ByteArray) : Prop := X.size ≤ 10 ∧ Y.size ≤ 10 ∧ ∃ (d a : Int), ∀ w', Below w.heap.size w w' →
  (Calls Tryz.prog 27 #[.string (txtB (Lib.decDigits k) ++ ⟨#[32]⟩ ++ X)] w' fun e w2 => e = .returned (.tuple #[.agg #[.int .i64 d, .int .i64 1, .int .i64 a], .int .i64 0]) ∧ Below w'.heap.size w' w2) ∧
  (Calls Tryz.prog 27 #[.string (txtB (Lib.decDigits k) ++ Y)] w' fun e w2 => e = .returned (.tuple #[.agg #[.int .i64 d, .int .i64 1, .int .i64 a], .int .i64 0]) ∧ Below w'.heap.size w' w2)
theorem pair_u {w : World} {k m : Nat} {u v : Un} {X Y : ByteArray} (hu : u ∈ cU) (hv : v ∈ cU) (hm : m ≤ 3) (hd : u.dim = v.dim) (hs : u.size.toNat = 10 ^ m * v.size.toNat) (hk1 : 1 ≤ k) (hk2 : k ≤ 900) (hX : X.data.toList = u.name) (hY : Y.data.toList = List.replicate m 48 ++ 32 :: v.name) (he : Env w) : UPair w k X Y := by
  have hnu := (un_name hu).2.2.2
  have hnv := (un_name hv).2.2.2
  have sX : X.size ≤ 10 := by have := size_list X; rw [hX] at this; omega
  have sY : Y.size ≤ 10 := by
    have := size_list Y
    rw [hY, List.length_append, List.length_replicate, List.length_cons] at this
    omega
  have hzu := (un_size hu).2.1
  have hz0 := (un_size hu).1
  have hb : k * u.size.toNat ≤ 1099511627776 := by
    have : k * u.size.toNat ≤ 900 * 1000000 := Nat.mul_le_mul hk2 (by omega)
    omega
  have hlen : (Lib.decDigits k).length ≤ 4 := by have := dec_len_le 3 k (by omega); omega
  obtain ⟨a1, a2, a3, a4⟩ := reads1 hu hk1 hb (by omega)
  have hm10 : 10 ^ m ≤ 1000 := by
    have : 10 ^ m ≤ 10 ^ 3 := Nat.pow_le_pow_right (by omega) hm
    omega
  have hkm : k * 10 ^ m ≤ 900 * 1000 := Nat.mul_le_mul hk2 hm10
  have hk0 : 1 ≤ k * 10 ^ m := Nat.mul_pos hk1 (Nat.pow_pos (by omega))
  have e2 : k * 10 ^ m * v.size.toNat = k * u.size.toNat := by rw [hs, Nat.mul_assoc]
  obtain ⟨b1, b2, b3, b4⟩ := reads1 hv hk0 (by rw [e2]; exact hb) (by omega)
  rw [dec_pow hk1, List.append_assoc, e2] at b4
  rw [dec_pow hk1, List.append_assoc] at b1 b2 b3
  refine ⟨sX, sY, u.dim, ((k * u.size.toNat : Nat) : Int), fun w' hB => ⟨?_, ?_⟩⟩
  · have h := QParse_v (txtB (Lib.decDigits k) ++ ⟨#[32]⟩ ++ X) w' (by rw [ByteArray.size_append, ByteArray.size_append, txtB_size, show (⟨#[32]⟩ : ByteArray).size = 1 from rfl]; omega) (he.below hB)
    rw [show (txtB (Lib.decDigits k) ++ ⟨#[32]⟩ ++ X).data.toList = Lib.decDigits k ++ 32 :: u.name by simp [txtB, hX], a1, a2, a3, a4] at h
    exact h
  · have h := QParse_v (txtB (Lib.decDigits k) ++ Y) w' (by rw [ByteArray.size_append, txtB_size]; omega) (he.below hB)
    rw [show (txtB (Lib.decDigits k) ++ Y).data.toList = Lib.decDigits k ++ (List.replicate m 48 ++ 32 :: v.name) by simp [txtB, hY], b1, b2, b3, b4, ← hd] at h
    exact h
def URows (X Y : ByteArray) : Prop := (X = ⟨#[107, 103]⟩ ∧ Y = ⟨#[48, 48, 48, 32, 103]⟩) ∨ (X = ⟨#[103]⟩ ∧ Y = ⟨#[48, 48, 48, 32, 109, 103]⟩) ∨ (X = ⟨#[108]⟩ ∧ Y = ⟨#[48, 48, 32, 99, 108]⟩) ∨ (X = ⟨#[99, 108]⟩ ∧ Y = ⟨#[48, 32, 109, 108]⟩) ∨ (X = ⟨#[108]⟩ ∧ Y = ⟨#[48, 48, 48, 32, 109, 108]⟩) ∨ (X = ⟨#[109]⟩ ∧ Y = ⟨#[48, 48, 32, 99, 109]⟩) ∨ (X = ⟨#[99, 109]⟩ ∧ Y = ⟨#[48, 32, 109, 109]⟩)
theorem rows_u {w : World} {k : Nat} {X Y : ByteArray} (h : URows X Y) (hk1 : 1 ≤ k) (hk2 : k ≤ 900) (he : Env w) : UPair w k X Y := by
  unfold URows at h
  rcases h with ⟨rfl, rfl⟩ | ⟨rfl, rfl⟩ | ⟨rfl, rfl⟩ | ⟨rfl, rfl⟩ | ⟨rfl, rfl⟩ | ⟨rfl, rfl⟩ | ⟨rfl, rfl⟩
  · exact pair_u (u := ⟨[107, 103], 1, 1000000, false⟩) (v := ⟨[103], 1, 1000, false⟩) (m := 3) (by simp [cU]) (by simp [cU]) (by omega) rfl (by decide) hk1 hk2 rfl rfl he
  · exact pair_u (u := ⟨[103], 1, 1000, false⟩) (v := ⟨[109, 103], 1, 1, false⟩) (m := 3) (by simp [cU]) (by simp [cU]) (by omega) rfl (by decide) hk1 hk2 rfl rfl he
  · exact pair_u (u := ⟨[108], 2, 1000, false⟩) (v := ⟨[99, 108], 2, 10, true⟩) (m := 2) (by simp [cU]) (by simp [cU]) (by omega) rfl (by decide) hk1 hk2 rfl rfl he
  · exact pair_u (u := ⟨[99, 108], 2, 10, true⟩) (v := ⟨[109, 108], 2, 1, false⟩) (m := 1) (by simp [cU]) (by simp [cU]) (by omega) rfl (by decide) hk1 hk2 rfl rfl he
  · exact pair_u (u := ⟨[108], 2, 1000, false⟩) (v := ⟨[109, 108], 2, 1, false⟩) (m := 3) (by simp [cU]) (by simp [cU]) (by omega) rfl (by decide) hk1 hk2 rfl rfl he
  · exact pair_u (u := ⟨[109], 3, 1000, false⟩) (v := ⟨[99, 109], 3, 10, true⟩) (m := 2) (by simp [cU]) (by simp [cU]) (by omega) rfl (by decide) hk1 hk2 rfl rfl he
  · exact pair_u (u := ⟨[99, 109], 3, 10, true⟩) (v := ⟨[109, 109], 3, 1, false⟩) (m := 1) (by simp [cU]) (by simp [cU]) (by omega) rfl (by decide) hk1 hk2 rfl rfl he
/-- the table, in memory -/
def TabU (w : World) (v : Value) (wx : World) : Prop := ∃ gt, v = .slice (some ⟨gt, 0, none⟩) 7 7 ∧ (∀ i : Nat, i < 7 → ∃ g X Y, wx.cell? ⟨gt, i, none⟩ = some (.slice (some ⟨g, 0, none⟩) 2 2) ∧ wx.cell? ⟨g, 0, none⟩ = some (.string X) ∧ wx.cell? ⟨g, 1, none⟩ = some (.string Y) ∧ URows X Y) ∧ Below w.heap.size w wx

set_option maxHeartbeats 16000000 in
set_option maxRecDepth 100000 in
theorem QuantityUnits_any (n : Int) (w : World) (_ : -9223372036854775808 ≤ n ∧ n ≤ 9223372036854775807) (he : Env w) :
    Calls Tryz.prog 9 #[.int .i64 n] w fun e w' => e = .returned (.bool true) ∧ Below w.heap.size w w' := by
  have EN := Lib.hid he
  clear he
  go_enter Tryz.func9, Tryz.ntmps9
  go_wp2_with fail
  refine (Fold_any n 900 (by omega) (by omega) _ 900 rfl).mono ?_; rintro e w1 ⟨r, rfl, hr, rfl⟩
  obtain ⟨k, hk⟩ : ∃ k : Nat, k = 1 + r := ⟨_, rfl⟩
  have hk1 : 1 ≤ k := by omega
  have hk2 : k ≤ 900 := by omega
  have hki : 1 + (r : Int) = (k : Int) := by omega
  have hkw : IntKind.i64.wrap (k : Int) = (k : Int) := IntWalk.i64_in _ (by omega)
  clear hk hr
  go_upto_region 2 with fail
  go_cut [4] from 5 to 64 (fun v4 wx => TabU w v4 wx)
  case first =>
    go_wp2_with fail
    go_meet
    refine ⟨_, rfl, ?_, ?_⟩
    · intro i hi
      have : i = 0 ∨ i = 1 ∨ i = 2 ∨ i = 3 ∨ i = 4 ∨ i = 5 ∨ i = 6 := by omega
      rcases this with rfl | rfl | rfl | rfl | rfl | rfl | rfl
      · exact ⟨w.heap.size, ⟨#[107, 103]⟩, ⟨#[48, 48, 48, 32, 103]⟩, by go_simp, by go_simp, by go_simp, .inl ⟨rfl, rfl⟩⟩
      · exact ⟨w.heap.size + 1, ⟨#[103]⟩, ⟨#[48, 48, 48, 32, 109, 103]⟩, by go_simp, by go_simp, by go_simp, .inr (.inl ⟨rfl, rfl⟩)⟩
      · exact ⟨w.heap.size + 1 + 1, ⟨#[108]⟩, ⟨#[48, 48, 32, 99, 108]⟩, by go_simp, by go_simp, by go_simp, .inr (.inr (.inl ⟨rfl, rfl⟩))⟩
      · exact ⟨w.heap.size + 1 + 1 + 1, ⟨#[99, 108]⟩, ⟨#[48, 32, 109, 108]⟩, by go_simp, by go_simp, by go_simp, .inr (.inr (.inr (.inl ⟨rfl, rfl⟩)))⟩
      · exact ⟨w.heap.size + 1 + 1 + 1 + 1, ⟨#[108]⟩, ⟨#[48, 48, 48, 32, 109, 108]⟩, by go_simp, by go_simp, by go_simp, .inr (.inr (.inr (.inr (.inl ⟨rfl, rfl⟩))))⟩
      · exact ⟨w.heap.size + 1 + 1 + 1 + 1 + 1, ⟨#[109]⟩, ⟨#[48, 48, 32, 99, 109]⟩, by go_simp, by go_simp, by go_simp, .inr (.inr (.inr (.inr (.inr (.inl ⟨rfl, rfl⟩)))))⟩
      · exact ⟨w.heap.size + 1 + 1 + 1 + 1 + 1 + 1, ⟨#[99, 109]⟩, ⟨#[48, 32, 109, 109]⟩, by go_simp, by go_simp, by go_simp, .inr (.inr (.inr (.inr (.inr (.inr (⟨rfl, rfl⟩))))))⟩
    · exact ((((((((Below.refl _ _).alloc (Nat.le_refl _) _).alloc (by simp) _).alloc (by simp; try omega) _).alloc (by simp; try omega) _).alloc (by simp; try omega) _).alloc (by simp; try omega) _).alloc (by simp; try omega) _).alloc (by simp; try omega) _
  case rest =>
    obtain ⟨gt, rfl, htab, hbl⟩ := hcut
    have HT := Lib.hid htab
    have HB := Lib.hid hbl
    obtain ⟨q, hq⟩ : ∃ q, q = rq false k 1 := ⟨_, rfl⟩
    have FI : Hid (∀ w', Calls Tryz.prog 41 #[.int .i64 (k : Int)] w' (MakesQ q 2 w')) := fun w' => by
      have h := rFromInt_q (k : Int) (by omega) (by omega) w'
      rwa [decide_eq_false (show ¬ (k : Int) < 0 by omega), Int.natAbs_natCast, ← hq] at h
    obtain ⟨S, hS⟩ : ∃ S, S = txtB (Lib.decDigits k) := ⟨_, rfl⟩
    have hru : ru (rn q) q.den (10 ^ 0) = k := by
      rw [hq, ru_rq (by omega) (Nat.one_dvd _)]
      simp
    have hrs : Hid (rs q = false) := by unfold Hid; rw [hq, rs_rq (by omega)]; rfl
    have FM : Hid (∀ (w' : World) ao n ca bo m cb, RQ w' false ao n ca bo m cb q 12 → Calls Tryz.prog 40 #[.agg #[.bool false, .slice ao n ca, .slice bo m cb], .int .i64 0] w' fun e w2 => e = .returned (.string S) ∧ Below w'.heap.size w' w2) := fun w' ao n ca bo m cb h => by
      have h2 := rqFormat_v false ao bo n ca m cb q 0 0 w' h (by omega)
      rwa [hru, show ftext false k 0 = Lib.decDigits k from (if_neg (by simp)).trans (if_neg (by omega)), ← hS] at h2
    have PR : Hid (∀ (X Y : ByteArray), URows X Y → UPair w k X Y) := fun X Y h => rows_u h hk1 hk2 EN.out
    have hSs : S.size ≤ 4 := by
      rw [hS, txtB_size]
      have := dec_len_le 3 k (by omega)
      omega
    unfold UPair at PR
    rw [← hS] at PR
    obtain ⟨ls, hls⟩ : ∃ n, n = S.size := ⟨_, rfl⟩
    have hS2 : S.size = ls := hls.symm
    rw [← hls] at hSs
    clear hq hS hru hls htab hbl
    go_wp2_with fail
    refine (FI.out _).mono ?_; rintro e w2 ⟨s2, a2, n2, c2, o2, m2, d2, rfl, cq2, b2⟩
    have hs2 : s2 = false := by rw [cq2.1, hrs.out]
    subst hs2
    have FC := Lib.hid (FM.out _ _ _ _ _ _ _ (RQ.up cq2.rq (show 2 ≤ 12 by omega) (by omega)))
    have HB2 := Lib.hid b2
    clear cq2 b2
    go_wp2_with fail
    refine FC.out.mono ?_; rintro e w3 ⟨rfl, b3⟩
    have HB3 : Hid (Below wc.heap.size wc w3) := HB2.out.trans (b3.mono HB2.out.size)
    clear b3
    go_wp2_with fail
    go_loopw [28] (fun s28 wr => ∃ i : Nat, i ≤ 7 ∧ s28 = .int .i64 (i : Int) ∧ Hid (Below wc.heap.size wc wr)) (fun s28 _ => 7 - (intOf s28).toNat)
    case atStart => exact ⟨0, by omega, rfl, HB3.out⟩
    case round =>
      obtain ⟨i, hi, rfl, hwr⟩ := hrel
      by_cases hlt : i < 7
      · have hlt2 : (i : Int) < 7 := by omega
        obtain ⟨g, X, Y, c0, c1, c2, hXY⟩ := HT.out i hlt
        obtain ⟨sX, sY, d, a, hP⟩ := PR.out X Y hXY
        have e0 := cellQ c0 hwr.out
        have e1 := cellQ c1 hwr.out
        have HC2 := Lib.hid c2
        have HP := Lib.hid hP
        obtain ⟨lx, hlx⟩ : ∃ n, n = X.size := ⟨_, rfl⟩
        obtain ⟨ly, hly⟩ : ∃ n, n = Y.size := ⟨_, rfl⟩
        have hX2 : X.size = lx := hlx.symm
        have hY2 : Y.size = ly := hly.symm
        rw [← hlx] at sX
        rw [← hly] at sY
        have q1 : ls + 1 ≤ 9223372036854775807 := by omega
        have q2 : ls + 1 + lx ≤ 9223372036854775807 := by omega
        have q3 : ls + ly ≤ 9223372036854775807 := by omega
        have BW : Hid (Below w.heap.size w wr) := HB.out.trans (hwr.out.mono HB.out.size)
        have CP1 := Lib.hid (HP.out wr BW.out).1
        clear c0 c1 c2 hXY hP hlx hly
        go_wp2_with fail
        refine CP1.out.mono ?_; rintro e w4 ⟨rfl, b4⟩
        have n5 := below_new w4 (.cells #[.int .i64 d, .int .i64 1, .int .i64 a] 39)
        have y5 := heap_alloc_new w4 (.cells #[.int .i64 d, .int .i64 1, .int .i64 a] 39)
        have B5 := (hwr.out.trans (b4.mono hwr.out.size)).trans (n5.mono (Nat.le_trans hwr.out.size b4.size))
        obtain ⟨W5, hW5⟩ : ∃ W, W = w4.alloc (.cells #[.int .i64 d, .int .i64 1, .int .i64 a] 39) := ⟨_, rfl⟩
        rw [← hW5] at y5 B5
        obtain ⟨ga, hga⟩ : ∃ g, g = w4.heap.size := ⟨_, rfl⟩
        rw [← hga] at y5
        have HB5 := Lib.hid B5
        have HY5 := Lib.hid y5
        have BW5 : Hid (Below w.heap.size w W5) := HB.out.trans (B5.mono HB.out.size)
        have CP2 := Lib.hid (HP.out W5 BW5.out).2
        have f0 := cellQ (cellQ HC2.out (Below.refl _ _)) B5
        clear n5 b4 y5 B5 e0 e1 CP1
        go_upto_region 8 with fail
        rw [← hW5, ← hga]
        clear hW5 hga
        go_wp2_with fail
        refine CP2.out.mono ?_; rintro e w6 ⟨rfl, b6⟩
        have n7 := below_new w6 (.cells #[.int .i64 d, .int .i64 1, .int .i64 a] 39)
        have x6 := carry HY5.out b6
        obtain ⟨k0, k1, k2, _⟩ := at_blockQ x6
        have hg6 := (Array.getElem?_eq_some_iff.1 x6).1
        have hne : ga ≠ w6.heap.size := by omega
        have B7 : Hid (Below wc.heap.size wc (w6.alloc (.cells #[.int .i64 d, .int .i64 1, .int .i64 a] 39))) := (HB5.out.trans (b6.mono HB5.out.size)).trans (n7.mono (Nat.le_trans HB5.out.size b6.size))
        clear b6 n7 x6 f0 CP2
        go_wp2_with fail
        go_roundw
        case rel => exact ⟨i + 1, by omega, by go_num, B7⟩
        case measure => simp [intOf]; omega
      · obtain rfl : i = 7 := by omega
        have BW : Hid (Below w.heap.size w wr) := HB.out.trans (hwr.out.mono HB.out.size)
        have AW := Lib.hid (awake8_v wr (EN.out.below BW.out))
        go_wp2_with fail
        refine AW.out.mono ?_; rintro e w9 ⟨rfl, b9⟩
        have B9 := Lib.hid (BW.out.trans (b9.mono BW.out.size))
        clear b9
        go_wp2_with fail
        go_ret
        exact ⟨rfl, B9.out⟩
end Go.Proofs.YtobiepkhommeaaaGreatDoor
/- QuantityUnits holds for every input: one of a greater unit is so many of a lesser one of its dimension; no condition. -/
namespace Go.Proofs.YtobiepkhommeaaaGreatDoor.lawQtyUnits
open Go.ChangeShapes Go.WideShapes Go.ChangeAt Go.RowKit

set_option maxRecDepth 100000 in
set_option maxHeartbeats 1000000 in
theorem contract (H : Type) (enc : TypeId × Value → H) (W : World) (base : Nat) (args : Array Value) (ds gs : List (DataW H)) (before : List MemPlace)
    (hval : ∀ (j : Nat) t v, Tryz.f9.params[j]? = some t → args[j]? = some v → Value.okWide Tryz.prog W .any base t v)
    (hW : DataW.Whole enc Tryz.prog Tryz.f9.params.toList Rows.quantityUnitsSpec.vars false W args.toList ds gs before) (hL : laidMetH Tryz.prog Rows.quantityUnitsRow.laid W) (hsh : W.ShapedOpen Tryz.prog) :
    Calls Tryz.prog 9 args W fun e W' => ∃ v, e = .returned v ∧ Rows.quantityUnitsSpec.post enc Tryz.prog Tryz.f9 false true false false W args v W' := by
  have hW' := hW
  obtain ⟨p, q, hA0, _, _, _, _⟩ := hW
  have hA : DataW.TrodAll enc Tryz.prog W 0 (fun _ => true) true Tryz.f9.params.toList args.toList ds p := hA0
  rw [Tryz.params9] at hA hval
  obtain ⟨v0, vs0, d0, ds0, p0, q0, hargs, rfl, rfl, h0, r0⟩ := trodAll_cons hA
  obtain ⟨rfl, rfl, rfl⟩ := trodAll_nil r0
  obtain rfl : args = #[v0] := by cases args; simp_all
  obtain ⟨x0, rfl, _, _, wx0⟩ := open_int Tryz.underlying3 (hval 0 3 v0 rfl rfl) h0
  have wb0 : -9223372036854775808 ≤ x0 ∧ x0 ≤ 9223372036854775807 := by
    have e1 : IntKind.i64.min = -9223372036854775808 := rfl
    have e2 : IntKind.i64.max = 9223372036854775807 := rfl
    simp [Lit.wf] at wx0
    omega
  refine (QuantityUnits_any x0 W wb0 (env_of (tab_of5 hL) hsh)).mono ?_
  rintro e W' ⟨rfl, hb⟩
  exact ⟨_, rfl, law_post hW' rfl rfl rfl (by rw [Tryz.params9]; exact facts.readable_of8 (by decide)) hb⟩

theorem laid_met (os : Os) : laidMet Tryz.prog Rows.quantityUnitsRow.laid ((laidWorld5 os).forCall (fun _ _ => 0) ⟨#[], #[.int .i64 0], []⟩).memory :=
  laidMet_of_run' 8 (by kernel_rfl) (by kernel_rfl)
theorem reads (os : Os) {H : Type} (enc : TypeId × Value → H) : ∃ places, DataW.whole enc Tryz.prog ((laidWorld5 os).forCall (fun _ _ => 0) ⟨#[], #[.int .i64 0], []⟩).memory Tryz.f9.params.toList Rows.quantityUnitsSpec.vars false #[Value.int .i64 0].toList 8 = some ([.lit (.int .i64 0)], [], places) :=
  ⟨[], by kernel_rfl⟩

set_option maxRecDepth 100000 in
set_option maxHeartbeats 2000000 in
theorem lifted (os : Os) (started : os.Started) (H : Type) (enc : TypeId × Value → H) (F : Stop.Interp) :
    ReturnsInHanded {} Tryz.checked os 9 .any ((OpenSpec.ofChange Rows.quantityUnitsSpec).preRow enc Tryz.prog Tryz.f9 Rows.quantityUnitsRow.domain false Rows.quantityUnitsRow.laid) (((OpenSpec.ofChange Rows.quantityUnitsSpec).at F).post enc Tryz.prog Tryz.f9 false true false false) := by
  obtain ⟨places, hx⟩ := reads os enc
  refine returnsInHanded_of_row (C := Tryz.checked) (s := OpenSpec.ofChange Rows.quantityUnitsSpec) fr_own started (by kernel_rfl) Tryz.func9
    (witness_row_at (enc := enc) (C := Tryz.checked) false (laidWorld5 os) #[.int .i64 0] rfl (by kernel_rfl) (by kernel_rfl) (by kernel_rfl)
      (OpenSpec.preRow_of_cond 8 hx (by kernel_rfl) (fun k hk => by cases hk) (by kernel_rfl) (laid_met os))) ?_
  intro W base args ds gs before hval hW _ _ _ hL hsh _
  exact contract H enc W base args ds gs before hval hW hL hsh

set_option maxHeartbeats 8000000 in
theorem closed : joinedFacts Tryz.prog 9 Tryz.f9 Rows.quantityUnitsSpec Rows.quantityUnitsRow = true := by
  unfold joinedFacts
  repeat' (with_reducible refine facts.and_mk ?_ ?_)
  all_goals first
    | (with_reducible exact facts.laidOut) | (with_reducible exact facts.rowed) | (with_reducible exact facts.stops) | (with_reducible exact facts.stopKnobs) | (with_reducible exact facts.stopsHeard) | (with_reducible exact facts.mayEnter)
    | ((with_reducible refine facts.plainKeys_of ?_); rfl) | ((with_reducible refine facts.lifted_of ?_); rfl) | ((with_reducible refine facts.make_of ?_); rfl)
    | (as_aux_lemma => kernel_rfl)

set_option maxRecDepth 100000 in
theorem said : Rows.QuantityUnitsSaid :=
  OpenClaim.holds_of_cond 9 Tryz.f9 rfl rfl rfl rfl rfl rfl rfl ⟨rfl, rfl, rfl, rfl, rfl⟩ rfl rfl rfl rfl rfl (by kernel_rfl) Tryz.func9 closed
    (of_decide_eq_true (by kernel_rfl)) (by unfold Func.isWrapper; first | (rw [if_pos (by decide +kernel)]; kernel_rfl) | (rw [if_neg (by decide +kernel)]; exact ⟨rfl, rfl⟩))
    (fun os started H enc _ F => by rw [OpenClaim.pre_eq_preRow]; exact lifted os started H enc F)

theorem plain (f : FuncId) (fn : Func) (hf : Tryz.pinned.checked.prog.funcNamed "priceoffice/priceofficelaw08.QuantityUnits" = some f) (hfn : Tryz.pinned.checked.prog.funcs[f]? = some fn) :
    Rows.rationalApartCard.stood.looks = Tryz.pinned.checked.prog.looks [] ∧ ∀ (j : Nat) t, fn.params[j]? = some t → Tryz.pinned.checked.prog.wantsStandIn t = false := by
  obtain rfl : f = 9 := Option.some.inj ((show Tryz.prog.funcNamed "priceoffice/priceofficelaw08.QuantityUnits" = some 9 by kernel_rfl).symm.trans hf) |>.symm
  obtain rfl : fn = Tryz.f9 := (Option.some.inj (Tryz.func9.symm.trans hfn)).symm
  refine ⟨facts.looks, fun j t ht => ?_⟩
  rw [Tryz.params9] at ht
  exact facts.standIn_of8 (by decide) j t ht

theorem card : Rows.QuantityUnitsCardSaid :=
  Claim7.holds_tied_plain_at .later [] _ _ _ _ said (fun _ h => by cases h) (by kernel_rfl) (fun _ h => by cases h) quantityUnits_row_tie rfl ⟨rfl, rfl⟩ facts.mainIs rfl plain (by kernel_rfl)
end Go.Proofs.YtobiepkhommeaaaGreatDoor.lawQtyUnits
