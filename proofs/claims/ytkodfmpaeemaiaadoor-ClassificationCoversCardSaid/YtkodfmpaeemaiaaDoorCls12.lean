import Derived.Test.YtkodfmpaeemaiaaDoorCls11
import Derived.Test.YtkodfmpaeemaiaaDoorCls9
/- The reference of package classification: Compare. -/
namespace Go.Proofs.YtkodfmpaeemaiaaDoor.C6
open Go.RowKit Go.Sort

theorem rk_le (s : ByteArray) : rk s ≤ 2 := by
  unfold rk
  split <;> omega
theorem cmp_rk {a b : ByteArray} (h : rk a ≠ rk b) : cmpS a b = if rk a < rk b then -1 else 1 := by
  unfold rk at h ⊢
  unfold cmpS
  cases ha : PO a with
  | none => cases hb : PO b with
    | none => rw [ha, hb] at h; simp at h
    | some q => cases q <;> simp
  | some p => cases p with
    | nil => cases hb : PO b with
      | none => simp
      | some q => cases q with
        | nil => rw [ha, hb] at h; simp at h
        | cons c q => simp [cmpL]
    | cons c p => cases hb : PO b with
      | none => simp
      | some q => cases q with
        | nil => simp [cmpL]
        | cons d q => rw [ha, hb] at h; simp at h
theorem cmp_bytes : ∀ (l m : List UInt8), Lib.compareBytes l m = if Op.bytesLess l m = true then -1 else if (l == m) = true then 0 else 1
  | [], [] => by simp [Lib.compareBytes, Op.bytesLess]
  | [], _ :: _ => by simp [Lib.compareBytes, Op.bytesLess]
  | _ :: _, [] => by simp [Lib.compareBytes, Op.bytesLess]
  | a :: l, b :: m => by
    have ih := cmp_bytes l m
    simp only [Lib.compareBytes, Op.bytesLess]
    by_cases h1 : a < b
    · simp [h1]
    · by_cases h2 : b < a
      · have hne : ¬ a = b := fun e => by subst e; exact h1 h2
        simp [h1, h2, hne]
      · have he : a = b := UInt8.le_antisymm (UInt8.not_lt.1 h2) (UInt8.not_lt.1 h1)
        subst he
        simp [h1, ih]
theorem cmp_same {a b : ByteArray} (h : rk a = rk b) (h1 : rk a ≠ 1) : cmpS a b = Lib.compareBytes a.toList b.toList := by
  rw [ByteArray.toList_eq, ByteArray.toList_eq]
  unfold rk at h h1
  unfold cmpS
  cases ha : PO a with
  | none => cases hb : PO b with
    | none => rfl
    | some q => rw [ha, hb] at h; cases q <;> simp at h
  | some p => cases p with
    | cons c p => rw [ha] at h1; simp at h1
    | nil => cases hb : PO b with
      | none => rw [ha, hb] at h; simp at h
      | some q => cases q with
        | cons c q => rw [ha, hb] at h; simp at h
        | nil =>
          rw [(PO_some ha).2.2.1, (PO_some hb).2.2.1]
          rfl
theorem rk_one {a : ByteArray} (h : rk a = 1) : ∃ p, P a = some p := by
  unfold rk at h
  cases ha : PO a with
  | none => rw [ha] at h; simp at h
  | some p => cases p with
    | nil => rw [ha] at h; simp at h
    | cons c p => exact ⟨_, ((PO_some ha).2.2.2 (by simp)).1⟩

set_option maxHeartbeats 8000000 in
set_option maxRecDepth 100000 in
theorem rCompare_v (a b : ByteArray) (ha : a.size ≤ 1000) (hb : b.size ≤ 1000) (w : World) : Calls Tryd.prog 24 #[.string a, .string b] w fun e w' => e = .returned (.int .i64 (cmpS a b)) ∧ Below w.heap.size w w' := by
  have HRA := Lib.hid (fun w => rank_v a ha w)
  have HRB := Lib.hid (fun w => rank_v b hb w)
  obtain ⟨x, hx⟩ : ∃ x, x = rk a := ⟨_, rfl⟩
  obtain ⟨y, hy⟩ : ∃ y, y = rk b := ⟨_, rfl⟩
  have hx2 : x ≤ 2 := by rw [hx]; exact rk_le a
  have hy2 : y ≤ 2 := by rw [hy]; exact rk_le b
  unfold Hid at HRA HRB
  rw [← hx] at HRA
  rw [← hy] at HRB
  have HA := Lib.hid HRA
  have HB := Lib.hid HRB
  have HX := Lib.hid hx
  have HY := Lib.hid hy
  have HO := Lib.hid (fun w => order_v (x : Int) (y : Int) w)
  clear HRA HRB hx hy
  go_enter Tryd.func24, Tryd.ntmps24
  go_wp2_with fail
  refine (HA.out _).mono ?_; rintro e w1 ⟨rfl, b1⟩
  go_wp2_with fail
  refine (HB.out _).mono ?_; rintro e w2 ⟨rfl, b2⟩
  have HB2 := Lib.hid (keep b1 b2)
  clear b1 b2
  go_wp2_with fail
  refine (HO.out _).mono ?_; rintro e w3 ⟨rfl, rfl⟩
  by_cases hxy : x = y
  · subst hxy
    rw [cmp_eq]
    by_cases h1 : x = 1
    · have h1' : ((x : Int) == 1) = true := beq_iff_eq.2 (by omega)
      obtain ⟨p, hp⟩ := rk_one (HX.out.symm.trans h1)
      obtain ⟨q, hq⟩ := rk_one (HY.out.symm.trans h1)
      have HC : Hid (cmpS a b = cmpL p q) := by unfold Hid cmpS; rw [PO_of_P hp, PO_of_P hq]
      have HP := Lib.hid hp
      have HQ := Lib.hid hq
      have hp5 := (P_some hp).1.2.1
      have hq5 := (P_some hq).1.2.1
      clear h1 hp hq
      go_wp2_with fail
      refine (HA.out _).mono ?_; rintro e w4 ⟨rfl, b4⟩
      have HB4 := Lib.hid (keep HB2.out b4)
      clear b4
      go_wp2_with fail
      refine (rParse_v a ha _).mono ?_; rintro e w5 h
      rcases h.cases with ⟨p', ao, ca, hP, _, hs5, rfl, hr, _, b5⟩ | ⟨hP, rfl, b5⟩
      · have : p' = p := by rw [HP.out] at hP; exact (Option.some.inj hP).symm
        subst this
        have HR5 := Lib.hid hr
        have HB5 := Lib.hid (keep HB4.out b5)
        obtain ⟨l, hl⟩ : ∃ l, l = p'.length := ⟨_, rfl⟩
        rw [← hl] at hp5 ⊢
        have HL := Lib.hid hl
        clear hP hs5 hr b5 h hl
        go_wp2_with fail
        refine (rParse_v b hb _).mono ?_; rintro e w6 h
        rcases h.cases with ⟨q', bo, cb, hQ, _, hs6, rfl, hr, _, b6⟩ | ⟨hQ, rfl, b6⟩
        · have : q' = q := by rw [HQ.out] at hQ; exact (Option.some.inj hQ).symm
          subst this
          have HR6 := Lib.hid hr
          have HR56 := Lib.hid (HR5.out.below b6)
          have HB6 := Lib.hid (keep HB5.out b6)
          obtain ⟨m, hm⟩ : ∃ m, m = q'.length := ⟨_, rfl⟩
          rw [← hm] at hq5 ⊢
          have HM := Lib.hid hm
          have HLE := Lib.hid (lcp_len p' q')
          clear hQ hs6 hr b6 h hm
          go_wp2_with fail
          go_loopw [10] (fun s10 wr => ∃ i : Nat, i ≤ l ∧ i ≤ m ∧ s10 = .int .i64 (i : Int) ∧ Hid (i ≤ (lcp p' q').length) ∧ Hid (Below w6.heap.size w6 wr)) (fun s10 _ => l - (intOf s10).toNat)
          case atStart => exact ⟨0, by omega, by omega, rfl, Nat.zero_le _, Below.refl _ _⟩
          case round =>
            obtain ⟨i, hil, him, rfl, hpre, hbl⟩ := hrel
            have hBB : Hid (Below w.heap.size w wr) := HB6.out.trans (hbl.out.mono HB6.out.size)
            have hat := cmpL_at p' q' i
            by_cases hlt : i < l
            · have hlt2 : (i : Int) < (l : Int) := by omega
              by_cases hmt : i < m
              · have hmt2 : (i : Int) < (m : Int) := by omega
                have hip : i < p'.length := by have := HL.out; omega
                have hiq : i < q'.length := by have := HM.out; omega
                obtain ⟨b1, o1, rfl, hc⟩ := (HR56.out.below hbl.out).atN (i := i) hip
                obtain ⟨b2, o2, rfl, hc'⟩ := (HR6.out.below hbl.out).atN (i := i) hiq
                obtain ⟨u, hu⟩ : ∃ u, u = p'.getD i 0 := ⟨_, rfl⟩
                obtain ⟨v, hv⟩ : ∃ v, v = q'.getD i 0 := ⟨_, rfl⟩
                rw [← hu] at hc
                rw [← hv] at hc'
                have hxp : u = p'[i] := by rw [hu]; simp [List.getD, hip]
                have hyq : v = q'[i] := by rw [hv]; simp [List.getD, hiq]
                have hstep := lcp_step p' q' i hpre.out hip hiq
                rw [← hxp, ← hyq] at hstep
                by_cases huv : u = v
                · have HN : Hid (i + 1 ≤ (lcp p' q').length) := hstep.1 huv
                  have hb : ((u : Int) == (v : Int)) = true := beq_iff_eq.2 (by omega)
                  have hb2 : ((u : Int) != (v : Int)) = false := by rw [bne, hb]; rfl
                  clear hstep hxp hyq hu hv huv hat
                  go_wp2_with fail
                  go_quiet (fail)
                  go_wp2_with fail
                  go_roundw
                  case rel => exact ⟨i + 1, by omega, by omega, by go_num, HN, below_drewN' hbl.out _⟩
                  case measure => simp [intOf]; omega
                · have hb : ((u : Int) == (v : Int)) = false := beq_eq_false_iff_ne.2 (by omega)
                  have hb2 : ((u : Int) != (v : Int)) = true := by rw [bne, hb]; rfl
                  have hlen : i = (lcp p' q').length := by have h1 := hpre.out; have h2 : ¬ i < (lcp p' q').length := fun h => huv (hstep.2 h); omega
                  have HF : Hid (Lib.compareInt (u : Int) (v : Int) = cmpS a b) := by
                    unfold Hid
                    rw [HC.out, hat hlen, dif_pos hip, dif_pos hiq, ← hxp, ← hyq, cmp_ne huv]
                  have HOO := Lib.hid (fun w => order_v (u : Int) (v : Int) w)
                  clear hstep hxp hyq hu hv huv hat hlen
                  go_wp2_with fail
                  go_quiet (fail)
                  go_wp2_with fail
                  go_region_with (go_at_call 41; refine (HOO.out _).mono ?_; rintro e w7 ⟨rfl, rfl⟩)
                  all_goals
                    go_wp2_with fail
                    go_ret
                    first
                      | exact ⟨ret_i64 HF.out, (below_drewN' hBB.out _).drew⟩
                      | exact ⟨ret_i64 HF.out, below_drewN' hBB.out _⟩
              · have hmt2 : ¬ (i : Int) < (m : Int) := by omega
                have hlen : i = (lcp p' q').length := by have h1 := hpre.out; have h2 := HLE.out; have := HM.out; omega
                have HF : Hid (Lib.compareInt (l : Int) (m : Int) = cmpS a b) := by
                  unfold Hid
                  rw [HC.out, hat hlen, dif_pos (by have := HL.out; omega), dif_neg (by have := HM.out; omega), cmp_ne (by omega), if_neg (by omega)]
                have HOO := Lib.hid (fun w => order_v (l : Int) (m : Int) w)
                clear hat hlen
                go_wp2_with fail
                refine (HOO.out _).mono ?_; rintro e w7 ⟨rfl, rfl⟩
                go_wp2_with fail
                go_ret
                exact ⟨ret_i64 HF.out, hBB.out⟩
            · obtain rfl : i = l := by omega
              have hlt2 : ¬ (i : Int) < (i : Int) := by omega
              have hlen : i = (lcp p' q').length := by have h1 := hpre.out; have h2 := HLE.out; have := HL.out; omega
              have HF : Hid (Lib.compareInt (i : Int) (m : Int) = cmpS a b) := by
                unfold Hid
                rw [HC.out, hat hlen, dif_neg (by have := HL.out; omega)]
                by_cases h : i < q'.length
                · rw [if_pos h, cmp_ne (by have := HM.out; omega), if_pos (by have := HM.out; omega)]
                · rw [if_neg h]
                  obtain rfl : i = m := by have := HM.out; omega
                  exact cmp_eq _
              have HOO := Lib.hid (fun w => order_v (i : Int) (m : Int) w)
              clear hat hlen
              go_wp2_with fail
              refine (HOO.out _).mono ?_; rintro e w7 ⟨rfl, rfl⟩
              go_wp2_with fail
              go_ret
              exact ⟨ret_i64 HF.out, hBB.out⟩
        · exact absurd (HQ.out.symm.trans hQ) (by simp)
      · exact absurd (HP.out.symm.trans hP) (by simp)
    · have h1' : ((x : Int) == 1) = false := beq_eq_false_iff_ne.2 (by omega)
      have hcs := cmp_same (HX.out.symm.trans HY.out) (by rw [← HX.out]; exact h1)
      rw [cmp_bytes] at hcs
      by_cases hlt : Op.bytesLess a.toList b.toList = true
      · have HC : Hid ((-1 : Int) = cmpS a b) := by unfold Hid; rw [hcs, if_pos hlt]
        clear hcs
        go_wp2_with fail
        refine (HA.out _).mono ?_; rintro e w4 ⟨rfl, b4⟩
        have HB4 := Lib.hid (keep HB2.out b4)
        clear b4
        go_wp2_with fail
        go_ret
        exact ⟨ret_i64 HC.out, HB4.out⟩
      · have hlt2 : Op.bytesLess a.toList b.toList = false := by simpa using hlt
        by_cases heq : (a.toList == b.toList) = true
        · have HC : Hid ((0 : Int) = cmpS a b) := by unfold Hid; rw [hcs, if_neg hlt, if_pos heq]
          clear hcs hlt
          go_wp2_with fail
          refine (HA.out _).mono ?_; rintro e w4 ⟨rfl, b4⟩
          have HB4 := Lib.hid (keep HB2.out b4)
          clear b4
          go_wp2_with fail
          go_ret
          exact ⟨ret_i64 HC.out, HB4.out⟩
        · have heq2 : (a.toList == b.toList) = false := by simpa using heq
          have HC : Hid ((1 : Int) = cmpS a b) := by unfold Hid; rw [hcs, if_neg hlt, if_neg heq]
          clear hcs hlt heq
          go_wp2_with fail
          refine (HA.out _).mono ?_; rintro e w4 ⟨rfl, b4⟩
          have HB4 := Lib.hid (keep HB2.out b4)
          clear b4
          go_wp2_with fail
          go_ret
          exact ⟨ret_i64 HC.out, HB4.out⟩
  · have hcr := cmp_rk (a := a) (b := b) (by rw [← HX.out, ← HY.out]; exact hxy)
    have hci := cmp_ne hxy
    rw [← HX.out, ← HY.out, ← hci] at hcr
    have hnz : (Lib.compareInt (x : Int) (y : Int) == 0) = false := by rw [hci]; split <;> rfl
    have hnz2 : (Lib.compareInt (x : Int) (y : Int) != 0) = true := by rw [bne, hnz]; rfl
    have HC : Hid (Lib.compareInt (x : Int) (y : Int) = cmpS a b) := hcr.symm
    clear hcr hci
    go_wp2_with fail
    go_ret
    exact ⟨ret_i64 HC.out, HB2.out⟩
end Go.Proofs.YtkodfmpaeemaiaaDoor.C6
