import Derived.Test.YtkodfmpaeemaiaaDoorCls20
import Derived.Test.YtkodfmpaeemaiaaDoorCls24
import Derived.Test.YtkodfmpaeemaiaaDoorCls10
/- Package classification: the reference's Leaves. -/
namespace Go.Proofs.YtkodfmpaeemaiaaDoor.C6
open Go.RowKit Go.Sort

set_option maxHeartbeats 8000000 in
set_option maxRecDepth 100000 in
theorem rLeaves_v (nm : ByteArray) (ao : Option Addr) (cap : Nat) (l : List ByteArray) (u : ByteArray) (w : World) (h : RdS w ao cap l) (hl : l.length ≤ 1000) (hsz : ∀ s ∈ l, s.size ≤ 1000) :
    Calls Tryd.prog 17 #[.agg #[.string nm, .slice ao l.length cap], .string u] w (SelPost w (selK l u (lvf l u))) := by
  obtain ⟨i0, hi, hz0, hz1, hz2⟩ := info_parts infoStr
  obtain ⟨n, hn⟩ : ∃ n, n = l.length := ⟨_, rfl⟩
  have b1 := below_new w (.cells #[.string nm, .slice ao l.length cap] 24)
  have k1 := Cls.new w nm ao l.length cap
  obtain ⟨W1, hW1⟩ : ∃ W1, W1 = w.alloc (.cells #[.string nm, .slice ao l.length cap] 24) := ⟨_, rfl⟩
  rw [← hW1] at b1 k1
  obtain ⟨g, hg⟩ : ∃ g, g = w.heap.size := ⟨_, rfl⟩
  rw [← hg] at k1
  have hV := fun w h => known_v nm ao cap l u w h hl hsz
  have hcp : n ≤ cap := by have := h.1; rw [strs_length] at this; omega
  have hcp2 := h.2.1
  rw [← hn] at hl hW1 k1 hV ⊢
  obtain ⟨kk, hkk⟩ : ∃ k, k = kn l u := ⟨_, rfl⟩
  rw [← hkk] at hV
  have HV := Lib.hid hV
  have HB1 := Lib.hid b1
  have HK1 := Lib.hid k1
  have HR0 := Lib.hid h
  have HR1 := Lib.hid (h.below b1)
  have HN := Lib.hid hn
  have HG := Lib.hid hg
  have HKK := Lib.hid hkk
  have HSZ : Hid (∀ s ∈ l, s.size ≤ 1000) := hsz
  have q0 := k1.c0
  have q1 := k1.c1
  clear b1 k1 h hn hV hkk hsz
  go_enter Tryd.func17, Tryd.ntmps17
  go_wp2_with fail
  rw [← hW1, ← hg]
  clear hW1 hg
  refine (HV.out _ HR1.out).mono ?_; rintro e w2 ⟨rfl, b2⟩
  have HB2 := Lib.hid (HB1.out.trans (b2.mono HB1.out.size))
  have HK2 := Lib.hid (HK1.out.below b2)
  have q2 := (HK1.out.below b2).c1
  clear b2 q0 q1
  cases kk
  · have HPost : Hid (SelPost w (selK l u (lvf l u)) (.returned (.slice none 0 0)) w2) := by
      unfold Hid selK
      rw [← HKK.out]
      exact ⟨_, rfl, World.ownsRow_nil _ _ _ _, HB2.out⟩
    go_wp2_with fail
    go_ret
    exact HPost.out
  · go_wp2_with fail
    clear q2
    go_loopw [5, 16] (fun s5 s16 wr => ∃ (i m : Nat) (v7 : Value), i ≤ n ∧ m ≤ i ∧ s16 = .int .i64 (i : Int) ∧ v7 = s5 ∧ Hid (m = (selT l (lvf l u) i).length) ∧ Hid (wr.ownsRow (g + 1) 9 1 v7 m (strs (selT l (lvf l u) i))) ∧ Hid (Cls wr g nm ao n cap) ∧ Hid (Below w.heap.size w wr)) (fun _ s16 _ => n - (intOf s16).toNat)
    case atStart => exact ⟨0, 0, _, by omega, by omega, rfl, rfl, rfl, World.ownsRow_nil _ _ _ _, HK2, HB2⟩
    case round =>
      obtain ⟨i, m, v7, hin, hmi, rfl, rfl, hm, hown, hcl, hbl⟩ := hrel
      by_cases hlt : i < n
      · have hlt2 : (i : Int) < (n : Int) := by omega
        have hil : i < l.length := by have := HN.out; omega
        have hrd := HR0.out.below hbl.out
        obtain ⟨b, o, e0, hc⟩ := hrd.atS (i := i) hil
        obtain ⟨x, hx⟩ : ∃ x, x = l.getD i ByteArray.empty := ⟨_, rfl⟩
        have hxs : x.size ≤ 1000 := HSZ.out x (by rw [hx]; simp [List.getD, hil])
        have hwx := fun w => rWithin_v x u hxs w
        obtain ⟨t, ht⟩ : ∃ t, t = wi x u := ⟨_, rfl⟩
        rw [← ht] at hwx
        have HWX := Lib.hid hwx
        have HT0 := Lib.hid ht
        have HX := Lib.hid hx
        have q3 := hcl.out.c1
        have hcI : (n : Int) ≤ (cap : Int) := by omega
        rw [← hx] at hc
        by_cases hl1 : i + 1 = n
        · have hq : ((i : Int) + 1 == (n : Int)) = true := beq_iff_eq.2 (by omega)
          have HTT : Hid (t = lvf l u i) := by unfold Hid lvf; rw [lf_last (by rw [← HN.out]; exact hl1), ← HX.out, ← HT0.out]; simp
          have HBA := Lib.hid hbl.out
          have HOA := Lib.hid hown.out
          have HKA := Lib.hid hcl.out
          subst e0
          clear hrd hx ht hwx hl1
          go_wp2_with fail
          refine (HWX.out _).mono ?_; rintro e w4 ⟨rfl, b4⟩
          have HB3 := Lib.hid (keep HBA.out b4)
          have HO := Lib.hid (own_below HOA.out b4)
          have HK3 := Lib.hid (HKA.out.below b4)
          have hsz2 : g + 1 ≤ w4.heap.size := HK3.out.lt
          have hsz3 : w.heap.size ≤ w4.heap.size := HB3.out.size
          have hrows : ∀ k, v7.ownBlock = some k → g + 1 ≤ k := fun k e => (hown.out.lt k e).1
          have hgn : some g ≠ v7.ownBlock := fun e => by have := hrows g e.symm; omega
          clear b4
          cases t
          · have HM : Hid (m = (selT l (lvf l u) (i + 1)).length) := by unfold Hid; rw [selT_no HTT.out.symm]; exact hm.out
            have HO3 : Hid (w4.ownsRow (g + 1) 9 1 v7 m (strs (selT l (lvf l u) (i + 1)))) := by unfold Hid; rw [selT_no HTT.out.symm]; exact HO.out
            go_wp2_with fail
            go_roundw
            case rel => exact ⟨i + 1, m, _, by omega, by omega, by go_num, rfl, HM, HO3, HK3, HB3⟩
            case measure => simp [intOf]; omega
          · have HM : Hid (m + 1 = (selT l (lvf l u) (i + 1)).length) := by unfold Hid; rw [selT_yes HTT.out.symm, List.length_append, ← hm.out]; rfl
            have HTK : Hid (strs (selT l (lvf l u) (i + 1)) = strs (selT l (lvf l u) i) ++ [.string x]) := by unfold Hid; rw [selT_yes HTT.out.symm, show l.getD i emp = x from HX.out.symm]; simp [strs]
            go_wp2_with (at_builtin; refine wpList_append_own _ rfl _ _ 22 rfl (g + 1) 9 i0 (.string ByteArray.empty) 1 16 Tryd.underlying22 hi hz0 hz1 hz2 rfl (by omega) _ _ _ rfl (HO.out.alloc _) ⟨w4.heap.size, 0, none⟩ 1 1 [.string x] rfl rfl (one_cell _ _ _) (by intro u hu; simp at hu; rcases hu with rfl; rfl) (by unfold maxLen; omega) (by omega) (by simp; omega) ?_; intro v5 w5 hown5 hgr5 _)
            have HB4 : Hid (Below w.heap.size w w5) := app_below HB3.out hsz3 hgr5 (fun k e => by have := hrows k e; have := HG.out; omega)
            have HO3 : Hid (w5.ownsRow (g + 1) 9 1 v5 (m + 1) (strs (selT l (lvf l u) (i + 1)))) := by unfold Hid; rw [HTK.out]; exact hown5
            have HK4 : Hid (Cls w5 g nm (some ⟨b, o, none⟩) n cap) := (hgr5.block g (by simp; omega) hgn).trans (HK3.out.below (below_new _ _))
            clear hown5 hgr5
            go_wp2_with fail
            go_roundw
            case rel => exact ⟨i + 1, m + 1, _, by omega, by omega, by go_num, rfl, HM, HO3, HK4, HB4⟩
            case measure => simp [intOf]; omega
        · have hi1 : i + 1 < l.length := by have := HN.out; omega
          have hi1n : i + 1 < n := by omega
          have hi2 : (i : Int) + 1 < (n : Int) := by omega
          have hi0 : (0 : Int) ≤ (i : Int) + 1 := by omega
          have hq : ((i : Int) + 1 == (n : Int)) = false := beq_eq_false_iff_ne.2 (by omega)
          obtain ⟨b', o', he, hy⟩ := hrd.atS (i := i + 1) hi1
          rw [e0] at he
          cases he
          obtain ⟨y, hye⟩ : ∃ x, x = l.getD (i + 1) ByteArray.empty := ⟨_, rfl⟩
          rw [← hye] at hy
          have hys : y.size ≤ 1000 := HSZ.out y (by rw [hye]; simp [List.getD, hi1])
          have hwy := fun w => rWithin_v y x hys w
          have HLF : Hid (lf l i = !wi y x) := by unfold Hid; rw [hye, HX.out]; exact lf_not (by rw [← HN.out]; exact hl1)
          obtain ⟨t1, ht1⟩ : ∃ t, t = wi y x := ⟨_, rfl⟩
          rw [← ht1] at hwy
          unfold Hid at HLF
          rw [← ht1] at HLF
          have HLF2 := Lib.hid HLF
          have HWY := Lib.hid hwy
          subst e0
          clear hrd hx ht hwx hl1 hi1 hye ht1 hwy HLF
          go_wp2_with fail
          refine (HWY.out _).mono ?_; rintro e w3 ⟨rfl, b3⟩
          have HBA := Lib.hid (keep hbl.out b3)
          have HOA := Lib.hid (own_below hown.out b3)
          have HKA := Lib.hid (hcl.out.below b3)
          clear b3
          cases t1
          · have HTT : Hid (t = lvf l u i) := by unfold Hid lvf; rw [HLF2.out, ← HX.out, ← HT0.out]; simp
            go_wp2_with fail
            refine (HWX.out _).mono ?_; rintro e w4 ⟨rfl, b4⟩
            have HB3 := Lib.hid (keep HBA.out b4)
            have HO := Lib.hid (own_below HOA.out b4)
            have HK3 := Lib.hid (HKA.out.below b4)
            have hsz2 : g + 1 ≤ w4.heap.size := HK3.out.lt
            have hsz3 : w.heap.size ≤ w4.heap.size := HB3.out.size
            have hrows : ∀ k, v7.ownBlock = some k → g + 1 ≤ k := fun k e => (hown.out.lt k e).1
            have hgn : some g ≠ v7.ownBlock := fun e => by have := hrows g e.symm; omega
            clear b4
            cases t
            · have HM : Hid (m = (selT l (lvf l u) (i + 1)).length) := by unfold Hid; rw [selT_no HTT.out.symm]; exact hm.out
              have HO3 : Hid (w4.ownsRow (g + 1) 9 1 v7 m (strs (selT l (lvf l u) (i + 1)))) := by unfold Hid; rw [selT_no HTT.out.symm]; exact HO.out
              go_wp2_with fail
              go_roundw
              case rel => exact ⟨i + 1, m, _, by omega, by omega, by go_num, rfl, HM, HO3, HK3, HB3⟩
              case measure => simp [intOf]; omega
            · have HM : Hid (m + 1 = (selT l (lvf l u) (i + 1)).length) := by unfold Hid; rw [selT_yes HTT.out.symm, List.length_append, ← hm.out]; rfl
              have HTK : Hid (strs (selT l (lvf l u) (i + 1)) = strs (selT l (lvf l u) i) ++ [.string x]) := by unfold Hid; rw [selT_yes HTT.out.symm, show l.getD i emp = x from HX.out.symm]; simp [strs]
              go_wp2_with (at_builtin; refine wpList_append_own _ rfl _ _ 22 rfl (g + 1) 9 i0 (.string ByteArray.empty) 1 16 Tryd.underlying22 hi hz0 hz1 hz2 rfl (by omega) _ _ _ rfl (HO.out.alloc _) ⟨w4.heap.size, 0, none⟩ 1 1 [.string x] rfl rfl (one_cell _ _ _) (by intro u hu; simp at hu; rcases hu with rfl; rfl) (by unfold maxLen; omega) (by omega) (by simp; omega) ?_; intro v5 w5 hown5 hgr5 _)
              have HB4 : Hid (Below w.heap.size w w5) := app_below HB3.out hsz3 hgr5 (fun k e => by have := hrows k e; have := HG.out; omega)
              have HO3 : Hid (w5.ownsRow (g + 1) 9 1 v5 (m + 1) (strs (selT l (lvf l u) (i + 1)))) := by unfold Hid; rw [HTK.out]; exact hown5
              have HK4 : Hid (Cls w5 g nm (some ⟨b, o, none⟩) n cap) := (hgr5.block g (by simp; omega) hgn).trans (HK3.out.below (below_new _ _))
              clear hown5 hgr5
              go_wp2_with fail
              go_roundw
              case rel => exact ⟨i + 1, m + 1, _, by omega, by omega, by go_num, rfl, HM, HO3, HK4, HB4⟩
              case measure => simp [intOf]; omega
          · have HTF : Hid (lvf l u i = false) := by unfold Hid lvf; rw [HLF2.out]; simp
            have HM : Hid (m = (selT l (lvf l u) (i + 1)).length) := by unfold Hid; rw [selT_no HTF.out]; exact hm.out
            have HO3 : Hid (w3.ownsRow (g + 1) 9 1 v7 m (strs (selT l (lvf l u) (i + 1)))) := by unfold Hid; rw [selT_no HTF.out]; exact HOA.out
            go_wp2_with fail
            go_roundw
            case rel => exact ⟨i + 1, m, _, by omega, by omega, by go_num, rfl, HM, HO3, HKA, HBA⟩
            case measure => simp [intOf]; omega
      · obtain rfl : i = n := by omega
        have hlt2 : ¬ (i : Int) < (i : Int) := by omega
        have HPost : Hid (SelPost w (selK l u (lvf l u)) (.returned v7) wr) := by
          unfold Hid selK
          rw [if_pos HKK.out.symm, ← HN.out]
          exact ⟨_, rfl, by rw [← hm.out]; exact own_mono hown.out (by have := HG.out; omega), hbl.out⟩
        go_wp2_with fail
        go_ret
        exact HPost.out
end Go.Proofs.YtkodfmpaeemaiaaDoor.C6
