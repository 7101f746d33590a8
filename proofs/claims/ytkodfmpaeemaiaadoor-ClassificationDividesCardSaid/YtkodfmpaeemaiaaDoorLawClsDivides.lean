import Derived.Test.YtkodfmpaeemaiaaDoorCls17
import Derived.Test.YtkodfmpaeemaiaaDoorClsF
/- ClassificationDivides for all inputs: the leaves within a code are those within its children. -/
namespace Go.Proofs.YtkodfmpaeemaiaaDoor.C6
open Go.RowKit Go.Sort

set_option maxHeartbeats 8000000 in
set_option maxRecDepth 100000 in
theorem ClassificationDivides_any (ao : Option Addr) (ts : List Int) (cap : Nat) (w : World) (hr : RdZ w ao cap ts) (hev : ErrV w) :
    Calls Tryd.prog 5 #[.slice ao ts.length cap] w fun e w' => e = .returned (.bool true) ∧ Below w.heap.size w w' := by
  obtain ⟨i0, hi, hz0, hz1, hz2⟩ := info_parts infoStr
  have b1 := below_new w (.cells #[.slice ao ts.length cap, .int .i64 0] 29)
  have hT := Tap.new w ao ts.length cap
  have hR := hr.below b1
  have hB := hr.lt
  obtain ⟨W1, hW1⟩ : ∃ W1, W1 = w.alloc (.cells #[.slice ao ts.length cap, .int .i64 0] 29) := ⟨_, rfl⟩
  rw [← hW1] at b1 hT hR
  obtain ⟨B, hBB⟩ : ∃ B, B = w.heap.size := ⟨_, rfl⟩
  have hB1 : W1.heap.size = B + 1 := by rw [hW1, hBB]; simp
  rw [← hBB] at hT hB
  obtain ⟨n, hn⟩ : ∃ n, n = ts.length := ⟨_, rfl⟩
  have hTr := Tree_v B ao cap ts 0 W1 hT hR hB (by omega)
  have HTr := Lib.hid hTr
  have HB1 := Lib.hid b1
  have HE := Lib.hid hev
  have HBB := Lib.hid hBB
  have HS1 := Lib.hid hB1
  rw [← hn] at hW1 ⊢
  clear hr hev b1 hT hR hB hn hTr hB1
  go_enter Tryd.func5, Tryd.ntmps5
  go_wp2_with fail
  rw [← hW1, ← hBB]
  clear hW1 hBB
  refine HTr.out.mono ?_; rintro e w2 ⟨l, a, c, rfl, hrow, hvl, hl1, hl10, hgr, _⟩
  have hb2 : Below w.heap.size w w2 := HB1.out.trans (by rw [← HBB.out]; exact gb_below hgr (by rw [HS1.out]; omega))
  obtain ⟨ps, hps, hvp⟩ := VL.parts l.length l rfl hvl
  obtain ⟨a', c', e4, hrd, hge⟩ := RdV.of_row hrow
  rw [strs_length] at e4
  cases e4
  obtain ⟨b, o, rfl, _⟩ := (show RdS w2 a c l from hrd).atS (i := 0) (by omega)
  have hb2g := hge (by rw [strs_length]; omega) b o rfl
  have hb2l := hrd.lt (by rw [strs_length]; omega) b o rfl
  have hWA := below_new w2 (.cells #[.string ⟨#[99]⟩, .slice (some ⟨b, o, none⟩) l.length c] 24)
  have hCL := Cls.new w2 ⟨#[99]⟩ (some ⟨b, o, none⟩) l.length c
  obtain ⟨WA, hWAe⟩ : ∃ W, W = w2.alloc (.cells #[.string ⟨#[99]⟩, .slice (some ⟨b, o, none⟩) l.length c] 24) := ⟨_, rfl⟩
  rw [← hWAe] at hWA hCL
  have hsA : WA.heap.size = w2.heap.size + 1 := by rw [hWAe]; simp
  have hLit := World.ownsRow_lit (base := w2.heap.size + 1) (e := 9) (size := 1) WA #[.string ⟨#[]⟩] 1 (by omega) (by unfold maxLen; omega) rfl
  have hWB := below_new WA (.cells #[.string ⟨#[]⟩] 9)
  obtain ⟨WB, hWBe⟩ : ∃ W, W = WA.alloc (.cells #[.string ⟨#[]⟩] 9) := ⟨_, rfl⟩
  rw [← hWBe] at hWB hLit
  have hsB : WB.heap.size = w2.heap.size + 2 := by rw [hWBe, World.size_alloc, hsA]
  rw [hsA] at hLit
  have hAB : Below w2.heap.size w2 WB := keep hWA hWB
  have hrB : RdS WB (some ⟨b, o, none⟩) c l := (show RdS w2 (some ⟨b, o, none⟩) c l from hrd).below hAB
  have hnews : ∀ j u, (strs l)[j]? = some u → WB.cell? ((⟨b, o, none⟩ : Addr).add j) = some u := by
    rcases hrB.2.2 with ⟨h0, _⟩ | ⟨b', o', e', hc⟩
    · intro j u hu
      have := congrArg List.length h0
      rw [strs_length, List.length_nil] at this
      omega
    · cases e'
      intro j u hu
      have := hc j u hu
      by_cases hj : j = 0
      · subst hj; simpa [Addr.add] using this
      · simpa [Addr.add, hj] using this
  have hone : ∀ u ∈ strs l, u.oneCell' = true := by
    intro u hu
    obtain ⟨s, _, rfl⟩ := List.mem_map.1 hu
    rfl
  have hmc : l.length ≤ c := by have := hrd.1; rw [strs_length] at this; omega
  have hmc2 : c ≤ 9223372036854775807 := hrd.2.1
  have HB2 := Lib.hid hb2
  have HVP := Lib.hid hvp
  have HPS := Lib.hid hps
  have HVL := Lib.hid hvl
  have HCL := Lib.hid (hCL.below hWB)
  have HBW := Lib.hid (keep hb2 hAB)
  have HRB := Lib.hid hrB
  have HSB := Lib.hid hsB
  have HLIT := Lib.hid hLit
  have HNEWS := Lib.hid hnews
  have HONE := Lib.hid hone
  have hAdd : hWAe = hWAe := rfl
  have q1 := hCL.c1
  clear hb2 hvp hps hvl hrow hgr hrd hge hCL hWA hWB hLit hsB hAB hrB hnews hone hAdd
  go_wp2_with (at_builtin; (rw [← hWAe, ← hWBe]; refine wpList_append_own _ rfl _ _ 22 rfl (w2.heap.size + 1) 9 i0 (.string ByteArray.empty) 1 16 Tryd.underlying22 hi hz0 hz1 hz2 rfl (by omega) _ 1 [.string ⟨#[]⟩] rfl HLIT.out ⟨b, o, none⟩ l.length c (strs l) rfl (by rw [strs_length]; omega) HNEWS.out HONE.out (by unfold maxLen; omega) (by omega) (by rw [HSB.out]; omega) ?_; intro v5 w5 hown5 hgr5 _; obtain ⟨a5, c5, rfl⟩ := of_row_n hown5))
  have hrow5 : w5.ownsRow (w2.heap.size + 1) 9 1 (.slice a5 (1 + l.length) c5) (1 + l.length) (strs (emp :: l)) := hown5
  obtain ⟨a6, c6, e6, hrd5, hge5⟩ := RdV.of_row hrow5
  rw [strs_length, List.length_cons] at e6
  have hbneG : b ≠ w2.heap.size + 1 := by omega
  have hB5 : Below w.heap.size w w5 := HBW.out.grown hgr5 (by have := HBW.out.size; exact this) (fun k e => by
    have h1 : w2.heap.size + 1 = k := Option.some.inj e
    have := HB2.out.size
    omega)
  have hCL5 : Cls w5 w2.heap.size ⟨#[99]⟩ (some ⟨b, o, none⟩) l.length c := (hgr5.block w2.heap.size (by rw [HSB.out]; omega) (fun e => absurd (Option.some.inj e) (Nat.ne_of_lt (Nat.lt_succ_self _)))).trans HCL.out
  have hRL5 : RdS w5 (some ⟨b, o, none⟩) c l := HRB.out.gbne (fun _ b' o' e => by cases e; exact hbneG) hgr5
  have hm6 : l.length + 1 = 1 + l.length := by omega
  have hs5 : w2.heap.size + 1 ≤ w5.heap.size := by have := hgr5.size; have := HSB.out; omega
  obtain ⟨rfl, rfl⟩ : a6 = a5 ∧ c6 = c5 := by
    injection e6 with h1 h2 h3
    exact ⟨h1.symm, h3.symm⟩
  have HRC := Lib.hid (show RdS w5 a6 c6 (emp :: l) from hrd5)
  have HB5 := Lib.hid hB5
  have HCL5 := Lib.hid hCL5
  have HRL5 := Lib.hid hRL5
  have hc6 : l.length + 1 ≤ c6 := by have := hrd5.1; rw [strs_length, List.length_cons] at this; omega
  have hc62 : c6 ≤ 9223372036854775807 := hrd5.2.1
  clear hrow5 e6 hrd5 hge5 hB5 hCL5 hRL5 hown5 hgr5 hWAe hWBe hsA q1 hbneG
  go_loopw [21] (fun s21 wr => ∃ i : Nat, i ≤ 1 + l.length ∧ s21 = .int .i64 (i : Int) ∧ Hid (Below w5.heap.size w5 wr)) (fun s21 _ => 1 + l.length - (intOf s21).toNat)
  case atStart => exact ⟨0, by omega, rfl, Below.refl _ _⟩
  case round =>
    obtain ⟨i, him, rfl, hbl⟩ := hrel
    by_cases hlt : i < 1 + l.length
    · have hlt2 : (i : Int) < 1 + (l.length : Int) := by omega
      obtain ⟨b6, o6, rfl, hx0⟩ := (HRC.out.below hbl.out).atS (i := i) (by rw [List.length_cons]; omega)
      obtain ⟨q, hq, hqx⟩ : ∃ q, (q = [] ∨ q ∈ ps) ∧ (emp :: l).getD i ByteArray.empty = txt q := by
        cases i with
        | zero => exact ⟨[], .inl rfl, rfl⟩
        | succ j =>
          have hj : j < ps.length := by have h1 := congrArg List.length HPS.out; rw [List.length_map] at h1; omega
          refine ⟨ps[j], .inr (List.getElem_mem hj), ?_⟩
          rw [← getD_txt hj, ← HPS.out]
          rfl
      have hqn : Ns q ∧ q.length ≤ 5 := by
        rcases hq with rfl | h
        · exact ⟨Ns.nil, by simp⟩
        · exact ⟨(HVP.out.1 q h).2.2, (HVP.out.1 q h).2.1⟩
      have hxl : txt q = emp ∨ txt q ∈ l := by
        rcases hq with rfl | h
        · exact .inl rfl
        · exact .inr (by rw [HPS.out]; exact List.mem_map_of_mem h)
      have hkn : kn l (txt q) = true := kn_ok HVL.out hl1 (by omega) hxl
      have hpl : l.length = ps.length := by rw [HPS.out, List.length_map]
      have hKe : selK l (txt q) (chf l (txt q)) = (Kd ps q).map txt := by
        unfold selK
        rw [if_pos hkn, hpl]
        have := sel_kids HVP.out (q := q) hqn.1
        rw [← HPS.out] at this
        exact this
      have hLe : selK l (txt q) (lvf l (txt q)) = (Lv ps q).map txt := by
        unfold selK
        rw [if_pos hkn, hpl]
        have := sel_leaves HVP.out (q := q) hqn.1 hqn.2
        rw [← HPS.out] at this
        exact this
      have hpne : ps ≠ [] := fun e => by rw [e] at hpl; rw [List.length_nil] at hpl; omega
      have HDV := Lib.hid (HVP.out.divides hpne hq)
      rw [hqx] at hx0
      have hCh := fun w' (hb : Below w5.heap.size w5 w') => Children_v ⟨#[99]⟩ (some ⟨b, o, none⟩) c l (txt q) w' (HRL5.out.below hb) (by omega) (HE.out.below (keep HB5.out hb))
      have hLv := fun w' (hb : Below w5.heap.size w5 w') => Leaves_v ⟨#[99]⟩ (some ⟨b, o, none⟩) c l (txt q) w' (HRL5.out.below hb) (by omega) (HE.out.below (keep HB5.out hb))
      rw [hKe] at hCh
      rw [hLe] at hLv
      have hLvg : ∀ k ∈ ps, ∀ w', Below w5.heap.size w5 w' → Calls Tryd.prog 16 #[.agg #[.string ⟨#[99]⟩, .slice (some ⟨b, o, none⟩) l.length c], .string (txt k)] w' (SelPost w' ((Lv ps k).map txt)) := by
        intro k hk w' hb
        have h1 := Leaves_v ⟨#[99]⟩ (some ⟨b, o, none⟩) c l (txt k) w' (HRL5.out.below hb) (by omega) (HE.out.below (keep HB5.out hb))
        have hkn2 : kn l (txt k) = true := kn_ok HVL.out hl1 (by omega) (.inr (by rw [HPS.out]; exact List.mem_map_of_mem hk))
        have h2 : selK l (txt k) (lvf l (txt k)) = (Lv ps k).map txt := by
          unfold selK
          rw [if_pos hkn2, hpl]
          have := sel_leaves HVP.out (q := k) (HVP.out.1 k hk).2.2 (HVP.out.1 k hk).2.1
          rw [← HPS.out] at this
          exact this
        rwa [h2] at h1
      obtain ⟨x, hxe⟩ : ∃ x, x = txt q := ⟨_, rfl⟩
      rw [← hxe] at hx0 hCh hLv
      have HCH := Lib.hid hCh
      have HLV := Lib.hid hLv
      have HLG := Lib.hid hLvg
      have HX := Lib.hid hxe
      have HQ := Lib.hid hq
      have q1 := (HCL5.out.below hbl.out).c1
      have q0 := (HCL5.out.below hbl.out).c0
      clear hCh hLv hLvg hxe hqx hkn hKe hLe hpne hxl hqn hq hpl
      go_wp2_with fail
      refine (HCH.out _ hbl.out).mono ?_; rintro e w6 ⟨v6, rfl, hown6, hbl6⟩
      obtain ⟨a7, c7, e7, hrd7, hge7⟩ := RdV.of_row hown6
      obtain ⟨K, hKd⟩ : ∃ K, K = Kd ps q := ⟨_, rfl⟩
      have hKl : K.length ≤ 10 := by
        rw [hKd]
        have h1 : (Kd ps q).length ≤ ps.length := List.length_filter_le _ _
        have h2 := congrArg List.length HPS.out
        rw [List.length_map] at h2
        omega
      rw [← hKd] at e7 hrd7
      rw [strs_length, List.length_map] at e7
      obtain ⟨n, hn⟩ : ∃ n, n = K.length := ⟨_, rfl⟩
      rw [← hn] at e7 hKl
      subst e7
      have HK := Lib.hid hKd
      have HN := Lib.hid hn
      have HRD7 := Lib.hid (show RdS w6 a7 c7 (K.map txt) from hrd7)
      have HB6 := Lib.hid (keep hbl.out hbl6)
      have hc7 : n ≤ c7 := by have := hrd7.1; rw [strs_length, List.length_map] at this; omega
      have hc72 : c7 ≤ 9223372036854775807 := hrd7.2.1
      have q3 := (HCL5.out.below HB6.out).c1
      have q2 := (HCL5.out.below HB6.out).c0
      clear hown6 hrd7 hge7 hbl6 hKd hn
      go_wp2_with fail
      go_loopw [8, 30] (fun s8 s30 wq => ∃ (j N : Nat) (v8 : Value), j ≤ n ∧ N ≤ 10 * j ∧ (0 < j → 0 < N) ∧ s30 = .int .i64 (j : Int) ∧ v8 = s8 ∧ Hid (wq.ownsRow w6.heap.size 9 1 v8 N (strs (((K.take j).flatMap (Lv ps)).map txt))) ∧ Hid (Below w6.heap.size w6 wq)) (fun _ s30 _ => n - (intOf s30).toNat)
      case atStart => exact ⟨0, 0, _, by omega, by omega, by omega, rfl, rfl, World.ownsRow_nil _ _ _ _, Below.refl _ _⟩
      case round =>
        obtain ⟨j, N, v8, hjn, hN, hN0, rfl, rfl, ho8, hb8⟩ := hrel
        by_cases hjl : j < n
        · have hjl2 : (j : Int) < (n : Int) := by omega
          have hjK : j < K.length := by have := HN.out; omega
          obtain ⟨b9, o9, rfl, hx9⟩ := (HRD7.out.below hb8.out).atS (i := j) (by rw [List.length_map]; exact hjK)
          rw [getD_txt hjK] at hx9
          have hkm : K[j] ∈ ps := (show ∀ x ∈ K, x ∈ ps by rw [HK.out]; exact fun x hx => (mem_Kd.1 hx).1) _ (List.getElem_mem hjK)
          have HLK := Lib.hid (HLG.out K[j] hkm _ (keep HB6.out hb8.out))
          have hLne : Lv ps K[j] ≠ [] := HVP.out.some_leaf 6 K[j] hkm (by omega)
          have hLl : (Lv ps K[j]).length ≤ 10 := by
            have h1 : (Lv ps K[j]).length ≤ ps.length := List.length_filter_le _ _
            have h2 := congrArg List.length HPS.out
            rw [List.length_map] at h2
            omega
          have q5 := (HCL5.out.below (keep HB6.out hb8.out)).c1
          have q4 := (HCL5.out.below (keep HB6.out hb8.out)).c0
          have hfl : (K.take (j + 1)).flatMap (Lv ps) = (K.take j).flatMap (Lv ps) ++ Lv ps K[j] := by rw [List.take_add_one, List.getElem?_eq_getElem hjK, Option.toList_some, List.flatMap_append, List.flatMap_singleton]
          have HFL := Lib.hid hfl
          obtain ⟨y, hy⟩ : ∃ y, y = txt K[j] := ⟨_, rfl⟩
          obtain ⟨L, hL⟩ : ∃ L, L = Lv ps K[j] := ⟨_, rfl⟩
          rw [← hy] at hx9 HLK
          rw [← hL] at HLK hLne hLl HFL
          clear hfl hy hL
          go_wp2_with fail
          refine HLK.out.mono ?_; rintro e w10 ⟨v10, rfl, hown10, hbl10⟩
          obtain ⟨a10, c10, e10, hrd10, hge10⟩ := RdV.of_row hown10
          rw [strs_length, List.length_map] at e10
          obtain ⟨m, hm⟩ : ∃ m, m = L.length := ⟨_, rfl⟩
          have hm0 : 0 < m := by rw [hm]; exact List.length_pos_iff.2 hLne
          obtain ⟨b10, o10, rfl, _⟩ := (show RdS w10 a10 c10 (L.map txt) from hrd10).atS (i := 0) (by rw [List.length_map]; omega)
          rw [← hm] at e10 hLl
          subst e10
          have hb10g := hge10 (by rw [strs_length, List.length_map]; omega) b10 o10 rfl
          have hnews : ∀ k u, (strs (L.map txt))[k]? = some u → w10.cell? ((⟨b10, o10, none⟩ : Addr).add k) = some u := by
            rcases (show RdS w10 (some ⟨b10, o10, none⟩) c10 (L.map txt) from hrd10).2.2 with ⟨h0, _⟩ | ⟨b', o', e', hc⟩
            · intro k u hu
              have := congrArg List.length h0
              rw [strs_length, List.length_map, List.length_nil] at this
              omega
            · cases e'
              intro k u hu
              have := hc k u hu
              by_cases hk : k = 0
              · subst hk; simpa [Addr.add] using this
              · simpa [Addr.add, hk] using this
          have hone : ∀ u ∈ strs (L.map txt), u.oneCell' = true := by
            intro u hu
            obtain ⟨s, _, rfl⟩ := List.mem_map.1 hu
            rfl
          have HO8 := Lib.hid (own_below ho8.out hbl10)
          have HB10 := Lib.hid (keep hb8.out hbl10)
          have HNW := Lib.hid hnews
          have HON := Lib.hid hone
          have HM := Lib.hid hm
          clear hown10 hrd10 hge10 hbl10 hnews hone hLne hm
          go_wp2_with (at_builtin; refine wpList_append_own _ rfl _ _ 22 rfl w6.heap.size 9 i0 (.string ByteArray.empty) 1 16 Tryd.underlying22 hi hz0 hz1 hz2 rfl (by omega) _ _ _ rfl HO8.out ⟨b10, o10, none⟩ m c10 (strs (L.map txt)) rfl (by rw [strs_length, List.length_map, HM.out]; omega) HNW.out HON.out (by unfold maxLen; omega) (by omega) HB10.out.size ?_; intro v11 w11 hown11 hgr11 _)
          have hrows : ∀ k, v8.ownBlock = some k → w6.heap.size ≤ k := fun k e => (HO8.out.lt k e).1
          have HO11 : Hid (w11.ownsRow w6.heap.size 9 1 v11 (N + m) (strs (((K.take (j + 1)).flatMap (Lv ps)).map txt))) := by
            unfold Hid
            rw [HFL.out, List.map_append, show strs (((K.take j).flatMap (Lv ps)).map txt ++ L.map txt) = strs (((K.take j).flatMap (Lv ps)).map txt) ++ strs (L.map txt) by simp [strs]]
            exact hown11
          have HB11 : Hid (Below w6.heap.size w6 w11) := HB10.out.grown hgr11 HB10.out.size hrows
          clear hown11 hgr11 hrows
          exact ⟨⟨j + 1, N + m, v11, by omega, by omega, by omega, by go_num, rfl, HO11, HB11⟩, by simp [intOf]; omega⟩
        · obtain rfl : j = n := by omega
          have hlt3 : ¬ (j : Int) < (j : Int) := by omega
          have hown8 := ho8.out
          rw [List.take_of_length_le (by have := HN.out; omega), HK.out] at hown8
          have HO8 := Lib.hid hown8
          clear hown8 ho8
          have HBR := Lib.hid (keep HB6.out hb8.out)
          by_cases hj0 : j = 0
          · subst hj0
            have hK0 : Kd ps q = [] := by rw [← HK.out]; exact List.eq_nil_of_length_eq_zero HN.out.symm
            have hP : (Lv ps q).map txt = [x] := by rw [HDV.out, if_pos hK0, HX.out]; rfl
            have hb0 := below_new wr (.cells #[.string x] 9)
            have HLW := Lib.hid (HLV.out _ (keep HBR.out hb0))
            have hLit2 := World.ownsRow_lit (base := wr.heap.size) (e := 9) (size := 1) wr #[.string x] 1 (Nat.le_refl _) (by unfold maxLen; omega) rfl
            have q5 := ((HCL5.out.below HBR.out).below hb0).c1
            have q4 := ((HCL5.out.below HBR.out).below hb0).c0
            have HBZ := Lib.hid (keep HBR.out hb0)
            obtain ⟨W12, hW12⟩ : ∃ W12, W12 = wr.alloc (.cells #[.string x] 9) := ⟨_, rfl⟩
            obtain ⟨a13, c13, e13, hrd13, _⟩ := RdV.of_row hLit2
            have HRA := Lib.hid hrd13
            have HWE : Hid (W12 = wr.alloc (.cells #[.string x] 9) ∧ Value.slice (some ⟨wr.heap.size, 0, none⟩) 1 1 = Value.slice a13 1 c13) := ⟨hW12, e13⟩
            have HP := Lib.hid hP
            rw [← hW12] at HLW HBZ HRA
            clear hb0 hLit2 hrd13 e13 hP hK0
            go_wp2_with fail
            rw [← hW12]
            clear hW12 q5 q4
            refine HLW.out.mono ?_; rintro e w14 ⟨v14, rfl, hown14, hbl14⟩
            obtain ⟨a14, c14, e14, hrd14, _⟩ := RdV.of_row hown14
            rw [strs_length] at e14
            obtain ⟨m14, hm14⟩ : ∃ m, m = ((Lv ps q).map txt).length := ⟨_, rfl⟩
            rw [← hm14] at e14
            subst e14
            have HS : Hid (Calls Tryd.prog 13 #[.slice a14 m14 c14, .slice (some ⟨wr.heap.size, 0, none⟩) 1 1] w14 fun e w' => e = .returned (.bool true) ∧ Below w14.heap.size w14 w') := by
              unfold Hid
              have h1 := SameStrings_v a14 a13 c14 c13 ((Lv ps q).map txt) [x] w14 hrd14 (HRA.out.below hbl14)
              rw [← hm14] at h1
              rw [HWE.out.2]
              exact h1.mono fun e w' ⟨h2, h3⟩ => ⟨by rw [h2, decide_eq_true HP.out], h3⟩
            have HB14 := Lib.hid (keep HBZ.out hbl14)
            clear hown14 hrd14 hbl14 hm14
            go_wp2_with fail
            refine HS.out.mono ?_; rintro e w15 ⟨rfl, hb15⟩
            have HB15 := Lib.hid (keep HB14.out hb15)
            clear hb15
            go_wp2_with fail
            go_roundw
            case rel => exact ⟨i + 1, by omega, by go_num, HB15⟩
            case measure => simp [intOf]; omega
          · have hj0I : ((j : Int) == 0) = false := by simp; omega
            have hK0 : Kd ps q ≠ [] := by rw [← HK.out]; intro e; have := HN.out; rw [e] at this; simp at this; omega
            have hP : (Lv ps q).map txt = ((Kd ps q).flatMap (Lv ps)).map txt := by rw [HDV.out, if_neg hK0]
            have HLW := Lib.hid (HLV.out _ HBR.out)
            have q5 := (HCL5.out.below HBR.out).c1
            have q4 := (HCL5.out.below HBR.out).c0
            obtain ⟨a13, c13, e13, hrd13, _⟩ := RdV.of_row HO8.out
            obtain ⟨m13, hm13⟩ : ∃ m, m = (((Kd ps q).flatMap (Lv ps)).map txt).length := ⟨_, rfl⟩
            rw [strs_length, ← hm13] at e13
            have HRA := Lib.hid hrd13
            subst e13
            have HP := Lib.hid hP
            have HM13 := Lib.hid hm13
            clear hrd13 hP hK0 hm13
            go_wp2_with fail
            clear q5 q4
            refine HLW.out.mono ?_; rintro e w14 ⟨v14, rfl, hown14, hbl14⟩
            obtain ⟨a14, c14, e14, hrd14, _⟩ := RdV.of_row hown14
            rw [strs_length] at e14
            obtain ⟨m14, hm14⟩ : ∃ m, m = ((Lv ps q).map txt).length := ⟨_, rfl⟩
            rw [← hm14] at e14
            subst e14
            have HS : Hid (Calls Tryd.prog 13 #[.slice a14 m14 c14, .slice a13 m13 c13] w14 fun e w' => e = .returned (.bool true) ∧ Below w14.heap.size w14 w') := by
              unfold Hid
              have h1 := SameStrings_v a14 a13 c14 c13 ((Lv ps q).map txt) (((Kd ps q).flatMap (Lv ps)).map txt) w14 hrd14 (HRA.out.below hbl14)
              rw [← hm14] at h1
              rw [← HM13.out] at h1
              exact h1.mono fun e w' ⟨h2, h3⟩ => ⟨by rw [h2, decide_eq_true HP.out], h3⟩
            have HB14 := Lib.hid (keep HBR.out hbl14)
            clear hown14 hrd14 hbl14 hm14
            go_wp2_with fail
            refine HS.out.mono ?_; rintro e w15 ⟨rfl, hb15⟩
            have HB15 := Lib.hid (keep HB14.out hb15)
            clear hb15
            go_wp2_with fail
            go_roundw
            case rel => exact ⟨i + 1, by omega, by go_num, HB15⟩
            case measure => simp [intOf]; omega
    · obtain rfl : i = 1 + l.length := by omega
      go_wp2_with fail
      have HBE := Lib.hid (keep HB5.out hbl.out)
      refine (awake_v wr (HE.out.below HBE.out)).mono ?_; rintro e w16 ⟨rfl, hb16⟩
      have HB16 := Lib.hid (keep HBE.out hb16)
      clear hb16
      go_wp2_with fail
      go_ret
      exact ⟨rfl, HB16.out⟩
end Go.Proofs.YtkodfmpaeemaiaaDoor.C6
