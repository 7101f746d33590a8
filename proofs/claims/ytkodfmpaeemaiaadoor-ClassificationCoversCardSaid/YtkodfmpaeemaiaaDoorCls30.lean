import Derived.Test.YtkodfmpaeemaiaaDoorCls29
import Derived.Test.YtkodfmpaeemaiaaDoorCls24
/- Cover of the reference. -/
namespace Go.Proofs.YtkodfmpaeemaiaaDoor.C6
open Go.RowKit Go.Sort

theorem selK_mem {l : List ByteArray} {u : ByteArray} {f : Nat → Bool} : ∀ x ∈ selK l u f, x ∈ l := by
  intro x hx
  unfold selK at hx
  split at hx
  · unfold selT at hx
    obtain ⟨j, hj, rfl⟩ := List.mem_map.1 hx
    have := List.mem_range.1 (List.mem_filter.1 hj).1
    simp [List.getD, this]
  · cases hx
theorem selK_len {l : List ByteArray} {u : ByteArray} {f : Nat → Bool} : (selK l u f).length ≤ l.length := by
  unfold selK
  split
  · unfold selT
    rw [List.length_map]
    exact Nat.le_trans (List.length_filter_le _ _) (by rw [List.length_range]; exact Nat.le_refl _)
  · simp

set_option maxHeartbeats 8000000 in
set_option maxRecDepth 100000 in
theorem rCover_v (nm : ByteArray) (ao : Option Addr) (cap : Nat) (l : List ByteArray) (u : ByteArray) (lo : Option Addr) (lc : Nat) (ls : List ByteArray) (w : World) (h : RdS w ao cap l) (hl : l.length ≤ 1000) (hsz : ∀ s ∈ l, s.size ≤ 1000) (hls : RdS w lo lc ls) (hl2 : ls.length ≤ 1000) (hsz2 : ∀ s ∈ ls, s.size ≤ 1000) :
    Calls Tryd.prog 21 #[.agg #[.string nm, .slice ao l.length cap], .string u, .slice lo ls.length lc] w fun e w' => e = .returned (.bool (cov l u ls)) ∧ Below w.heap.size w w' := by
  have b1 := below_new w (.cells #[.string nm, .slice ao l.length cap] 24)
  have k1 := Cls.new w nm ao l.length cap
  obtain ⟨W1, hW1⟩ : ∃ W1, W1 = w.alloc (.cells #[.string nm, .slice ao l.length cap] 24) := ⟨_, rfl⟩
  rw [← hW1] at b1 k1
  have K1 := Lib.hid k1
  have B1 := Lib.hid b1
  have HR := Lib.hid h
  have HS := Lib.hid hls
  obtain ⟨L, hL⟩ : ∃ L, L = selK l u (lvf l u) := ⟨_, rfl⟩
  obtain ⟨m, hm⟩ : ∃ m, m = L.length := ⟨_, rfl⟩
  have HLs : Hid (∀ x ∈ L, x.size ≤ 1000) := fun x hx => hsz x (by rw [hL] at hx; exact selK_mem x hx)
  have HSs : Hid (∀ x ∈ ls, x.size ≤ 1000) := hsz2
  have hLl : L.length ≤ l.length := by rw [hL]; exact selK_len
  obtain ⟨n, hn⟩ : ∃ n, n = ls.length := ⟨_, rfl⟩
  have hnc : n ≤ lc := by have := hls.1; rw [strs_length] at this; omega
  have hnc2 := hls.2.1
  have hmL : m ≤ 1000 := by omega
  have hcc : l.length ≤ cap := by have := h.1; rw [strs_length] at this; omega
  have hcc2 := h.2.1
  have hKN : ∀ w', Below w.heap.size w w' → Calls Tryd.prog 33 #[.agg #[.string nm, .slice ao l.length cap], .string u] w' fun e w2 => e = .returned (.bool (kn l u)) ∧ Below w'.heap.size w' w2 := fun w' hb => known_v nm ao cap l u w' (h.below hb) hl hsz
  have hLV : ∀ w', Below w.heap.size w w' → Calls Tryd.prog 17 #[.agg #[.string nm, .slice ao l.length cap], .string u] w' fun e w2 => ∃ a c, e = .returned (.slice a m c) ∧ RdS w2 a c L ∧ Below w'.heap.size w' w2 := fun w' hb => by
    have := rLeaves_v nm ao cap l u w' (h.below hb) hl hsz
    rw [← hL] at this
    exact this.mono fun e w2 hp => hp.row hm.symm
  have F1 : Hid (kn l u = false → cov l u ls = false) := fun h => cov_f0 h
  have F2 : Hid (∀ i, i < n → (wi (ls.getD i ByteArray.empty) u && Lib.containsS l (ls.getD i ByteArray.empty)) = false → cov l u ls = false) := fun i hi h => cov_f2 (by omega) h
  have F3 : Hid (∀ i, i < m → cntW (L.getD i ByteArray.empty) ls ≠ 1 → cov l u ls = false) := fun i hi h => cov_f3 hL (by omega) h
  have F4 : Hid (kn l u = true → (∀ i, i < n → (wi (ls.getD i ByteArray.empty) u && Lib.containsS l (ls.getD i ByteArray.empty)) = true) → (∀ i, i < m → cntW (L.getD i ByteArray.empty) ls = 1) → cov l u ls = true) := fun h1 h2 h3 => cov_t2 hL h1 (fun i hi => h2 i (by omega)) (fun i hi => h3 i (by omega))
  obtain ⟨CV, hCV⟩ : ∃ b, b = cov l u ls := ⟨_, rfl⟩
  obtain ⟨kb, hkb⟩ : ∃ b, b = kn l u := ⟨_, rfl⟩
  have hCT : ∀ w s, RdS w ao cap l → Calls Tryd.prog 26 #[.slice ao l.length cap, .string s] w fun e w' => e = .returned (.bool (Lib.containsS l s)) ∧ w = w' := fun w s h => has_v ao cap l s w h hl
  unfold Hid at F1 F2 F3 F4
  rw [← hCV] at F1 F2 F3 F4 ⊢
  rw [← hkb] at F1 F4 hKN
  have G1 := Lib.hid F1
  have G2 := Lib.hid F2
  have G3 := Lib.hid F3
  have G4 := Lib.hid F4
  have HM := Lib.hid hm
  have HN := Lib.hid hn
  have HW := Lib.hid (fun s hs a w => rWithin_v s a hs w)
  obtain ⟨ln, hln⟩ : ∃ n, n = l.length := ⟨_, rfl⟩
  unfold Hid at K1
  rw [← hln] at hW1 K1 hLV hKN hCT hcc ⊢
  have q0 := K1.c0
  have q1 := K1.c1
  rw [← hn]
  obtain ⟨g, hg⟩ : ∃ g, g = w.heap.size := ⟨_, rfl⟩
  rw [hW1] at q0 q1
  rw [← hg] at K1
  have K1' := Lib.hid K1
  have HLV := Lib.hid hLV
  have HKN := Lib.hid hKN
  have HCT := Lib.hid hCT
  clear h hl hls hl2 b1 k1 K1 hL hm hn hLV hKN hCT F1 F2 F3 F4 hCV hkb hln hLl hsz hsz2
  go_enter Tryd.func21, Tryd.ntmps21
  go_wp2_with fail
  rw [← hW1, ← hg]
  clear q0 q1 hW1 hg
  refine (HKN.out W1 B1.out).mono ?_; rintro e w2 ⟨rfl, hb2⟩
  have HB2 := Lib.hid (keep B1.out hb2)
  have HK2 := Lib.hid (K1'.out.below hb2)
  clear hb2
  cases hkb : kb with
  | false =>
    have HX : Hid (false = CV) := (G1.out hkb).symm
    go_wp2_with fail
    go_ret
    exact ⟨ret_bool HX.out, HB2.out⟩
  | true =>
    have HKB : Hid (kb = true) := hkb
    clear hkb
    go_wp2_with fail
    go_loopw [20] (fun s20 wr => ∃ i : Nat, i ≤ n ∧ s20 = .int .i64 (i : Int) ∧ Hid (∀ j, j < i → (wi (ls.getD j ByteArray.empty) u && Lib.containsS l (ls.getD j ByteArray.empty)) = true) ∧ Hid (Below w2.heap.size w2 wr)) (fun s20 _ => n - (intOf s20).toNat)
    case atStart => exact ⟨0, by omega, rfl, fun j hj => by omega, Below.refl _ _⟩
    case round =>
      obtain ⟨i, hin, rfl, hpre, hbl⟩ := hrel
      by_cases hlt : i < n
      · have hlt2 : (i : Int) < (n : Int) := by omega
        have hil : i < ls.length := by have := HN.out; omega
        have hbw := keep HB2.out hbl.out
        obtain ⟨b, o, rfl, hx⟩ := (HS.out.below hbw).atS (i := i) hil
        obtain ⟨s, hs⟩ : ∃ s, s = ls.getD i ByteArray.empty := ⟨_, rfl⟩
        have hss : s.size ≤ 1000 := HSs.out s (by rw [hs]; simp [List.getD, hil])
        rw [← hs] at hx
        have q1 := (HK2.out.below hbl.out).c1
        have HBW := Lib.hid hbw
        clear hbw
        cases hc : Lib.containsS l s with
        | false =>
          have HX : Hid (false = CV) := (G2.out i hlt (by rw [← hs, hc, Bool.and_false])).symm
          have HCs : Hid (∀ w, RdS w ao cap l → Calls Tryd.prog 26 #[.slice ao ln cap, .string s] w fun e w' => e = .returned (.bool false) ∧ w = w') := fun w h => by have := HCT.out w s h; rwa [hc] at this
          clear hs hc
          go_wp2_with fail
          refine (HCs.out _ (HR.out.below HBW.out)).mono ?_; rintro e w4 ⟨rfl, rfl⟩
          go_wp2_with fail
          go_ret
          exact ⟨ret_bool HX.out, HBW.out⟩
        | true =>
          have HCs : Hid (∀ w, RdS w ao cap l → Calls Tryd.prog 26 #[.slice ao ln cap, .string s] w fun e w' => e = .returned (.bool true) ∧ w = w') := fun w h => by have := HCT.out w s h; rwa [hc] at this
          cases hw : wi s u with
          | false =>
            have HX : Hid (false = CV) := (G2.out i hlt (by rw [← hs, hw]; rfl)).symm
            have HWs : Hid (∀ w, Calls Tryd.prog 37 #[.string s, .string u] w fun e w' => e = .returned (.bool false) ∧ Below w.heap.size w w') := fun w => by have := HW.out s hss u w; rwa [hw] at this
            clear hs hw hc
            go_wp2_with fail
            refine (HCs.out _ (HR.out.below HBW.out)).mono ?_; rintro e w4 ⟨rfl, rfl⟩
            go_wp2_with fail
            refine (HWs.out _).mono ?_; rintro e w3 ⟨rfl, hb3⟩
            have HB3 := Lib.hid (keep HBW.out hb3)
            clear hb3
            go_wp2_with fail
            go_ret
            exact ⟨ret_bool HX.out, HB3.out⟩
          | true =>
            have HX : Hid (∀ j, j < i + 1 → (wi (ls.getD j ByteArray.empty) u && Lib.containsS l (ls.getD j ByteArray.empty)) = true) := fun j hj => by
              by_cases hji : j < i
              · exact hpre.out j hji
              · obtain rfl : j = i := by omega
                rw [← hs, hw, hc]; rfl
            have HWs : Hid (∀ w, Calls Tryd.prog 37 #[.string s, .string u] w fun e w' => e = .returned (.bool true) ∧ Below w.heap.size w w') := fun w => by have := HW.out s hss u w; rwa [hw] at this
            clear hs hw hc
            go_wp2_with fail
            refine (HCs.out _ (HR.out.below HBW.out)).mono ?_; rintro e w4 ⟨rfl, rfl⟩
            go_wp2_with fail
            refine (HWs.out _).mono ?_; rintro e w3 ⟨rfl, hb3⟩
            have HBL := Lib.hid (keep hbl.out hb3)
            clear hb3
            go_wp2_with fail
            go_roundw
            case rel => exact ⟨i + 1, by omega, by go_num, HX, HBL⟩
            case measure => simp [intOf]; omega
      · obtain rfl : i = n := by omega
        have hlt2 : ¬ (i : Int) < (i : Int) := by omega
        have HB3 := Lib.hid (keep HB2.out hbl.out)
        have q1 := (HK2.out.below hbl.out).c1
        have q0 := (HK2.out.below hbl.out).c0
        go_wp2_with fail
        refine (HLV.out _ HB3.out).mono ?_; rintro e w5 ⟨a5, c5, rfl, hr5, hb5⟩
        have HR5 := Lib.hid hr5
        have HB5 := Lib.hid (keep HB3.out hb5)
        have hm2 : m ≤ c5 := by have := hr5.1; rw [strs_length] at this; have := HM.out; omega
        have hm22 := hr5.2.1
        clear hr5 hb5 q0 q1
        go_wp2_with fail
        go_loopw [40] (fun s40 wq => ∃ k : Nat, k ≤ m ∧ s40 = .int .i64 (k : Int) ∧ Hid (∀ j, j < k → cntW (L.getD j ByteArray.empty) ls = 1) ∧ Hid (Below w5.heap.size w5 wq)) (fun s40 _ => m - (intOf s40).toNat)
        case atStart => exact ⟨0, by omega, rfl, fun j hj => by omega, Below.refl _ _⟩
        case round =>
          obtain ⟨k, hkm, rfl, hpk, hbk⟩ := hrel
          by_cases hlk : k < m
          · have hlk2 : (k : Int) < (m : Int) := by omega
            have hkL : k < L.length := by have := HM.out; omega
            obtain ⟨b, o, rfl, hx⟩ := (HR5.out.below hbk.out).atS (i := k) hkL
            obtain ⟨x, hxe⟩ : ∃ x, x = L.getD k ByteArray.empty := ⟨_, rfl⟩
            have hxs : x.size ≤ 1000 := HLs.out x (by rw [hxe]; simp [List.getD, hkL])
            rw [← hxe] at hx
            have HBK := Lib.hid (keep HB5.out hbk.out)
            have HXE := Lib.hid hxe
            clear hxe
            go_wp2_with fail
            go_loopw [11, 46] (fun s11 s46 wz => ∃ i2 c : Nat, i2 ≤ i ∧ c ≤ i2 ∧ s46 = .int .i64 (i2 : Int) ∧ s11 = .int .i64 (c : Int) ∧ Hid (c = cntW x (ls.take i2)) ∧ Hid (Below wr.heap.size wr wz)) (fun _ s46 _ => i - (intOf s46).toNat)
            case atStart => exact ⟨0, 0, by omega, by omega, rfl, rfl, rfl, Below.refl _ _⟩
            case round =>
              obtain ⟨i2, c, hi2, hci, rfl, rfl, hcc3, hbz⟩ := hrel
              by_cases hl3 : i2 < i
              · have hl32 : (i2 : Int) < (i : Int) := by omega
                have hil : i2 < ls.length := by have := HN.out; omega
                obtain ⟨b6, o6, rfl, hx6⟩ := (HS.out.below (keep HBK.out hbz.out)).atS (i := i2) hil
                obtain ⟨s, hs⟩ : ∃ s, s = ls.getD i2 ByteArray.empty := ⟨_, rfl⟩
                rw [← hs] at hx6
                cases hw : wi x s with
                | true =>
                  have HK : Hid (c + 1 = cntW x (ls.take (i2 + 1))) := by unfold Hid; rw [cntW_yes hil (by rw [← hs]; exact hw), hcc3.out]
                  have HWs : Hid (∀ w, Calls Tryd.prog 37 #[.string x, .string s] w fun e w' => e = .returned (.bool true) ∧ Below w.heap.size w w') := fun w => by have := HW.out x hxs s w; rwa [hw] at this
                  clear hs hw
                  go_wp2_with fail
                  refine (HWs.out _).mono ?_; rintro e w7 ⟨rfl, hb7⟩
                  have HB7 := Lib.hid (keep hbz.out hb7)
                  clear hb7
                  go_wp2_with fail
                  go_roundw
                  case rel => exact ⟨i2 + 1, c + 1, by omega, by omega, by go_num, by go_num, HK, HB7⟩
                  case measure => simp [intOf]; omega
                | false =>
                  have HK : Hid (c = cntW x (ls.take (i2 + 1))) := by unfold Hid; rw [cntW_no hil (by rw [← hs]; exact hw), hcc3.out]
                  have HWs : Hid (∀ w, Calls Tryd.prog 37 #[.string x, .string s] w fun e w' => e = .returned (.bool false) ∧ Below w.heap.size w w') := fun w => by have := HW.out x hxs s w; rwa [hw] at this
                  clear hs hw
                  go_wp2_with fail
                  refine (HWs.out _).mono ?_; rintro e w7 ⟨rfl, hb7⟩
                  have HB7 := Lib.hid (keep hbz.out hb7)
                  clear hb7
                  go_wp2_with fail
                  go_roundw
                  case rel => exact ⟨i2 + 1, c, by omega, by omega, by go_num, rfl, HK, HB7⟩
                  case measure => simp [intOf]; omega
              · obtain rfl : i2 = i := by omega
                have hl32 : ¬ (i2 : Int) < (i2 : Int) := by omega
                have hcx : c = cntW x ls := by
                  have h1 := hcc3.out
                  rwa [List.take_of_length_le (by have := HN.out; omega)] at h1
                by_cases hc1 : c = 1
                · have HX : Hid (∀ j, j < k + 1 → cntW (L.getD j ByteArray.empty) ls = 1) := fun j hj => by
                    by_cases hji : j < k
                    · exact hpk.out j hji
                    · obtain rfl : j = k := by omega
                      rw [← HXE.out, ← hcx]; exact hc1
                  have hc1I : ((c : Int) == 1) = true := by rw [hc1]; rfl
                  have hc1J : (c : Int) = 1 := by omega
                  have HBZ := Lib.hid (keep hbk.out hbz.out)
                  clear hcx
                  go_wp2_with fail
                  go_roundw
                  case rel => exact ⟨k + 1, by omega, by go_num, HX, HBZ⟩
                  case measure => simp [intOf]; omega
                · have HX : Hid (false = CV) := (G3.out k hlk (by rw [← HXE.out, ← hcx]; exact hc1)).symm
                  have hc1I : ((c : Int) == 1) = false := beq_eq_false_iff_ne.2 (by omega)
                  have hc1J : ¬ (c : Int) = 1 := by omega
                  have HBZ := Lib.hid (keep HBK.out hbz.out)
                  clear hcx
                  go_wp2_with fail
                  go_ret
                  exact ⟨ret_bool HX.out, HBZ.out⟩
          · obtain rfl : k = m := by omega
            have hlk2 : ¬ (k : Int) < (k : Int) := by omega
            have HX : Hid (true = CV) := (G4.out HKB.out hpre.out hpk.out).symm
            have HBK := Lib.hid (keep HB5.out hbk.out)
            go_wp2_with fail
            go_ret
            exact ⟨ret_bool HX.out, HBK.out⟩
end Go.Proofs.YtkodfmpaeemaiaaDoor.C6
