import Derived.Test.YtejcdgkcmbmbmaaDoorTwo
import Derived.Test.YtejcdgkcmbmbmaaDoorCls12
import Derived.Deep.RegionWith
/- ClassificationOrders for all inputs: Compare, Within and Common of any two strings. -/
namespace Go.Proofs.YtejcdgkcmbmbmaaDoor.C6
open Go.RowKit Go.Sort

/-- a block of texts -/
def Txs (w : World) (g : Nat) (l : List ByteArray) : Prop := w.heap[g]? = some (.cells (strs l).toArray 9 (0, 0))
theorem Txs.lt {w : World} {g : Nat} {l : List ByteArray} (h : Txs w g l) : g < w.heap.size := (Array.getElem?_eq_some_iff.1 h).1
theorem Txs.below {w w' : World} {g : Nat} {l : List ByteArray} (h : Txs w g l) (b : Below w.heap.size w w') : Txs w' g l := (b.block g h.lt).trans h
theorem Txs.at {w : World} {g : Nat} {l : List ByteArray} (h : Txs w g l) {i : Nat} (hi : i < l.length) : ∃ y, w.cell? ⟨g, i, none⟩ = some (.string y) ∧ y ∈ l := by
  unfold Txs at h
  exact ⟨l[i], by simp [World.cell?, h, strs, hi], List.getElem_mem hi⟩
theorem Txs.new5 (w : World) (a b c d e : ByteArray) : Txs (w.alloc (.cells #[.string a, .string b, .string c, .string d, .string e] 9)) w.heap.size [a, b, c, d, e] := by
  unfold Txs World.alloc
  simp [strs]

set_option maxHeartbeats 16000000 in
set_option maxRecDepth 100000 in
theorem ClassificationOrders_any (s t : ByteArray) (ao : Option Addr) (ts : List Int) (cap : Nat) (w : World) (hs : s.size ≤ 9223372036854775807) (ht : t.size ≤ 9223372036854775807) (hr : RdZ w ao cap ts) (hev : ErrV w) :
    Calls Tryd.prog 6 #[.string s, .string t, .slice ao ts.length cap] w fun e w' => e = .returned (.bool true) ∧ Below w.heap.size w w' := by
  obtain ⟨q, hq⟩ : ∃ q : Nat, min ((s.size : Nat) : Int) 20 = (q : Int) := ⟨(min ((s.size : Nat) : Int) 20).toNat, by omega⟩
  have hqs : q ≤ s.size := by omega
  have hqI : (q : Int) ≤ (s.size : Int) := by omega
  have hu : (s.extract 0 q).size ≤ 20 := by simp [ByteArray.size_extract]; omega
  obtain ⟨r, hrr⟩ : ∃ r : Nat, min ((t.size : Nat) : Int) 20 = (r : Int) := ⟨(min ((t.size : Nat) : Int) 20).toNat, by omega⟩
  have hrs : r ≤ t.size := by omega
  have hrI : (r : Int) ≤ (t.size : Int) := by omega
  have hv : (t.extract 0 r).size ≤ 20 := by simp [ByteArray.size_extract]; omega
  have b1 := below_new w (.cells #[.slice ao ts.length cap, .int .i64 0] 26)
  have hT := Tap.new w ao ts.length cap
  have hR := hr.below b1
  have hB := hr.lt
  obtain ⟨W1, hW1⟩ : ∃ W1, W1 = w.alloc (.cells #[.slice ao ts.length cap, .int .i64 0] 26) := ⟨_, rfl⟩
  rw [← hW1] at b1 hT hR
  obtain ⟨B, hBB⟩ : ∃ B, B = w.heap.size := ⟨_, rfl⟩
  have hB1 : W1.heap.size = B + 1 := by rw [hW1, hBB]; simp
  rw [← hBB] at hT hB
  obtain ⟨n, hn⟩ : ∃ n, n = ts.length := ⟨_, rfl⟩
  have HCode : Hid (∀ i w', i ≤ 900 → Below w.heap.size w w' → RdZ w' ao cap ts → Tap w' B ao n cap i → Calls Tryd.prog 14 #[.pointer (some ⟨B, 0, none⟩)] w' fun e w2 => ∃ s : ByteArray, e = .returned (.string s) ∧ s.size ≤ 14 ∧ Below w.heap.size w w2 ∧ RdZ w2 ao cap ts ∧ ∃ j, j ≤ i + 6 ∧ Tap w2 B ao n cap j) := fun i w' hi hb hrr ht => by
    rw [hn] at ht
    refine (code_v B ao cap ts i w' ht hrr hB hi).mono ?_
    rintro e w2 ⟨s, he, hs, hg, j, _, hj, hj2⟩
    have hle : B ≤ w'.heap.size := Nat.le_of_lt ht.lt
    refine ⟨s, he, hs, hb.trans (by rw [← hBB]; exact gb_below hg hle), hrr.gb hB hle hg, j, hj, by rw [hn]; exact hj2⟩
  have HT : Hid (Tap W1 B ao n cap 0) := by rw [hn]; exact hT
  have HR := Lib.hid hR
  have HB1 := Lib.hid b1
  have HE := Lib.hid hev
  rw [← hn] at hW1 ⊢
  clear hr hev b1 hT hR hB hn
  go_enter Tryd.func6, Tryd.ntmps6
  go_upto_region 2 with fail
  rw [← hW1]
  try rw [← hBB]
  clear hW1 hBB
  go_cut [8] from 13 (fun v8 wx => ∃ (g : Nat) (l : List ByteArray), v8 = .slice (some ⟨g, 0, none⟩) 5 5 ∧ Hid (l.length = 5) ∧ Hid (∀ x ∈ l, x.size ≤ 20) ∧ Hid (Txs wx g l) ∧ Hid (Below w.heap.size w wx))
  case first =>
    go_region_with (go_at_call 14; first | (refine (HCode.out j1 _ (by omega) bb1 rr1 tt1).mono ?_; rintro e w3 ⟨b, rfl, hb, bb2, rr2, j2, hj2, tt2⟩) | (refine (HCode.out 0 _ (by omega) HB1.out.drew HR.out HT.out).mono ?_; rintro e w2 ⟨a, rfl, ha, bb1, rr1, j1, hj1, tt1⟩))
    all_goals
      have HT3 := Lib.hid (Txs.new5 w3 (s.extract 0 q) (t.extract 0 r) a b emp)
      have HB4 := Lib.hid (keep bb2 (below_new w3 (.cells #[.string (s.extract 0 q), .string (t.extract 0 r), .string a, .string b, .string emp] 9)))
      go_wp2_with fail
      go_meet
      exact ⟨w3.heap.size, [s.extract 0 q, t.extract 0 r, a, b, emp], rfl, rfl, (by intro x hx; simp at hx; rcases hx with rfl | rfl | rfl | rfl | rfl; exact hu; exact hv; omega; omega; decide), HT3, HB4⟩
  case rest =>
    obtain ⟨g, l, rfl, hl5, hl20, htx, hbel⟩ := hcut
    clear hq hqs hqI hu hrr hrs hrI hv HCode HT HR HB1
    go_wp2_with fail
    go_loopw [33] (fun s33 wr => ∃ i : Nat, i ≤ 5 ∧ s33 = .int .i64 (i : Int) ∧ Hid (Txs wr g l) ∧ Hid (Below w.heap.size w wr)) (fun s33 _ => 5 - (intOf s33).toNat)
    case atStart => exact ⟨0, by omega, rfl, htx, hbel⟩
    case round =>
      obtain ⟨i, hi5, rfl, htw, hbl⟩ := hrel
      by_cases hlt : i < 5
      · obtain ⟨x, hx, hxl⟩ := htw.out.at (by rw [hl5.out]; exact hlt)
        have hx20 := Lib.hid (hl20.out x hxl)
        have hltI : (i : Int) < 5 := by omega
        clear hxl
        go_wp2_with fail
        go_loopw [39] (fun s39 wq => ∃ k : Nat, k ≤ 5 ∧ s39 = .int .i64 (k : Int) ∧ Hid (Txs wq g l) ∧ Hid (Below w.heap.size w wq)) (fun s39 _ => 5 - (intOf s39).toNat)
        case atStart => exact ⟨0, by omega, rfl, htw, hbl⟩
        case round =>
          obtain ⟨k, hk5, rfl, htk, hbk⟩ := hrel
          by_cases hkt : k < 5
          · obtain ⟨y, hy, hyl⟩ := htk.out.at (by rw [hl5.out]; exact hkt)
            have hy20 := hl20.out y hyl
            have hx1000 : x.size ≤ 1000 := by have := hx20.out; omega
            have hy1000 : y.size ≤ 1000 := by omega
            have C1 := Lib.hid (fun w h => Compare_v x y w h)
            have C2 := Lib.hid (fun w => rCompare_v x y hx1000 hy1000 w)
            have W1 := Lib.hid (fun w h => Within_v x y w h)
            have W2 := Lib.hid (fun w => rWithin_v x y hx1000 w)
            have M1 := Lib.hid (fun w h => Common_v x y w h)
            have M2 := Lib.hid (fun w => rCommon_v x y hx1000 hy1000 w)
            obtain ⟨cv, hcv⟩ : ∃ t, t = cmpS x y := ⟨_, rfl⟩
            obtain ⟨wv, hwv⟩ : ∃ t, t = wi x y := ⟨_, rfl⟩
            obtain ⟨mv, hmv⟩ : ∃ t, t = com x y := ⟨_, rfl⟩
            unfold Hid at C1 C2 W1 W2 M1 M2
            rw [← hcv] at C1 C2
            rw [← hwv] at W1 W2
            rw [← hmv] at M1 M2
            have C1' := Lib.hid C1
            have C2' := Lib.hid C2
            have W1' := Lib.hid W1
            have W2' := Lib.hid W2
            have M1' := Lib.hid M1
            have M2' := Lib.hid M2
            clear C1 C2 W1 W2 M1 M2 hcv hwv hmv hyl hy20 hx1000 hy1000
            go_wp2_with fail
            refine (C1'.out _ (HE.out.below hbk.out)).mono ?_; rintro e v1 ⟨rfl, c1⟩
            have D1 := Lib.hid (keep hbk.out c1)
            have T1 := Lib.hid (htk.out.below c1)
            clear c1
            go_wp2_with fail
            refine (C2'.out _).mono ?_; rintro e v2 ⟨rfl, c2⟩
            have D2 := Lib.hid (keep D1.out c2)
            have T2 := Lib.hid (T1.out.below c2)
            clear c2
            go_wp2_with fail
            refine (W1'.out _ (HE.out.below D2.out)).mono ?_; rintro e v3 ⟨rfl, c3⟩
            have D3 := Lib.hid (keep D2.out c3)
            have T3 := Lib.hid (T2.out.below c3)
            clear c3
            go_wp2_with fail
            refine (W2'.out _).mono ?_; rintro e v4 ⟨rfl, c4⟩
            have D4 := Lib.hid (keep D3.out c4)
            have T4 := Lib.hid (T3.out.below c4)
            clear c4
            go_wp2_with fail
            refine (M1'.out _ (HE.out.below D4.out)).mono ?_; rintro e v5 ⟨rfl, c5⟩
            have D5 := Lib.hid (keep D4.out c5)
            have T5 := Lib.hid (T4.out.below c5)
            clear c5
            go_wp2_with fail
            refine (M2'.out _).mono ?_; rintro e v6 ⟨rfl, c6⟩
            have D6 := Lib.hid (keep D5.out c6)
            have T6 := Lib.hid (T5.out.below c6)
            clear c6
            go_wp2_with fail
            go_roundw
            case rel => exact ⟨k + 1, by omega, by go_num, T6, D6⟩
            case measure => simp [intOf]; omega
          · obtain rfl : k = 5 := by omega
            go_wp2_with fail
            go_roundw
            case rel => exact ⟨i + 1, by omega, by go_num, htk, hbk⟩
            case measure => simp [intOf]; omega
      · obtain rfl : i = 5 := by omega
        go_wp2_with fail
        refine (awake_v _ (HE.out.below hbl.out)).mono ?_; rintro e w9 ⟨rfl, b9⟩
        have BE := Lib.hid (keep hbl.out b9)
        clear b9
        go_wp2_with fail
        go_ret
        exact ⟨rfl, BE.out⟩
end Go.Proofs.YtejcdgkcmbmbmaaDoor.C6
