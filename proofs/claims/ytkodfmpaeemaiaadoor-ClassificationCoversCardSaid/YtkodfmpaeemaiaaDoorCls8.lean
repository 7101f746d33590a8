import Derived.Test.YtkodfmpaeemaiaaDoorCls4
import Derived.Deep.RegionWith
/- Package classification: compareParts, with a closure that counts, Within, Common, Compare. -/
namespace Go.Proofs.YtkodfmpaeemaiaaDoor.C6
open Go.RowKit Go.Sort

/-- the box that counts -/
def Cnt (w : World) (g n : Nat) : Prop := w.heap[g]? = some (.cells #[.int .i64 (n : Int)] 3 (0, 0))
theorem Cnt.c0 {w : World} {g n : Nat} (h : Cnt w g n) : w.cell? ⟨g, 0, none⟩ = some (.int .i64 (n : Int)) := by
  unfold Cnt at h
  simp [World.cell?, h]
theorem Cnt.fz {w : World} {g n : Nat} (h : Cnt w g n) : w.frozen? ⟨g, 0, none⟩ = false := by
  unfold Cnt at h
  simp [World.frozen?, h]
theorem Cnt.lt {w : World} {g n : Nat} (h : Cnt w g n) : g < w.heap.size := (Array.getElem?_eq_some_iff.1 h).1
theorem Cnt.set {w : World} {g n : Nat} (h : Cnt w g n) (m : Nat) : Cnt (w.setCell ⟨g, 0, none⟩ (.int .i64 (m : Int))) g m := by
  unfold Cnt at h ⊢
  simp [World.setCell, Array.getElem?_modify, h]
theorem Cnt.new (w : World) : Cnt (w.alloc (.cells #[.int .i64 0] 3)) w.heap.size 0 := by
  unfold Cnt World.alloc
  simp
def bump (x y : Int) (n : Nat) : Nat := if x = y then n + 1 else n
set_option maxHeartbeats 2000000 in
theorem count_v (x y : Int) (g n : Nat) (w : World) (h : Cnt w g n) (hn : n ≤ 1000) :
    Calls Tryd.prog 56 #[.int .i64 x, .int .i64 y, .pointer (some ⟨g, 0, none⟩)] w fun e w' => e = .returned (.int .i64 (Lib.compareInt x y)) ∧ Cnt w' g (bump x y n) ∧ w.grownBy w' (some g) := by
  have c0 := h.c0
  have f0 := h.fz
  have HC := Lib.hid (fun w => Tryd.cmp_Compare_int x y w)
  by_cases hxy : x = y
  · have hd : (x == y) = true := beq_iff_eq.2 hxy
    have HP : Hid (Cnt (w.setCell ⟨g, 0, none⟩ (.int .i64 ((n : Int) + 1))) g (bump x y n)) := by unfold Hid bump; rw [if_pos hxy]; exact h.set (n + 1)
    clear hxy h
    go_enter Tryd.func56, Tryd.ntmps56
    go_wp2_with fail
    refine (HC.out _).mono ?_; rintro e w' ⟨rfl, rfl⟩
    go_wp2_with fail
    go_ret
    exact ⟨rfl, HP.out, gb_set _ _ _ _⟩
  · have hd : (x == y) = false := beq_eq_false_iff_ne.2 hxy
    have HP : Hid (Cnt w g (bump x y n)) := by unfold Hid bump; rw [if_neg hxy]; exact h
    clear hxy h
    go_enter Tryd.func56, Tryd.ntmps56
    go_wp2_with fail
    refine (HC.out _).mono ?_; rintro e w' ⟨rfl, rfl⟩
    go_wp2_with fail
    go_ret
    exact ⟨rfl, HP.out, gb_drewN _ 0 _⟩

theorem cmp_ne {a b : Nat} (h : a ≠ b) : Lib.compareInt (a : Int) (b : Int) = if a < b then -1 else 1 := by
  unfold Lib.compareInt
  by_cases h1 : a < b
  · rw [if_pos (by omega), if_pos h1]
  · rw [if_neg (by omega), if_pos (by omega), if_neg h1]
theorem cmp_eq (a : Int) : Lib.compareInt a a = 0 := by
  unfold Lib.compareInt
  rw [if_neg (by omega), if_neg (by omega)]
set_option maxHeartbeats 4000000 in
theorem CompareFunc_v (ao bo : Option Addr) (ca cb : Nat) (p q : List Nat) (g : Nat) (w : World) (hp : RdN w ao ca p) (hq : RdN w bo cb q) (hap : 0 < p.length → ∀ b o, ao = some ⟨b, o, none⟩ → b < g) (hbq : 0 < q.length → ∀ b o, bo = some ⟨b, o, none⟩ → b < g)
    (h5 : p.length ≤ 5) (h : Cnt w g 0) :
    Calls Tryd.prog 58 #[.slice ao p.length ca, .slice bo q.length cb, .func (.func 56) #[] #[.pointer (some ⟨g, 0, none⟩)]] w
      fun e w' => e = .returned (.int .i64 (cmpL p q)) ∧ Cnt w' g (lcp p q).length ∧ w.grownBy w' (some g) := by
  obtain ⟨l, hl⟩ : ∃ l, l = p.length := ⟨_, rfl⟩
  obtain ⟨m, hm⟩ : ∃ m, m = q.length := ⟨_, rfl⟩
  rw [← hl] at h5 ⊢
  rw [← hm]
  have hgl := h.lt
  have HL := Lib.hid hl
  have HM := Lib.hid hm
  have HP := Lib.hid hp
  have HQ := Lib.hid hq
  have HAP := Lib.hid hap
  have HBQ := Lib.hid hbq
  have HC := Lib.hid h
  have HLE := Lib.hid (lcp_len p q)
  clear hl hm hp hq hap hbq h
  go_enter Tryd.func58, Tryd.ntmps58
  go_wp2_with fail
  go_loopw [13] (fun s13 wr => ∃ i : Nat, i ≤ l ∧ s13 = .int .i64 (i : Int) ∧ Hid (i ≤ (lcp p q).length) ∧ Hid (Cnt wr g i) ∧ Hid (w.grownBy wr (some g))) (fun s13 _ => l - (intOf s13).toNat)
  case atStart => exact ⟨0, by omega, rfl, Nat.zero_le _, HC.out, gb_drewN _ 0 _⟩
  case round =>
    obtain ⟨i, hil, rfl, hpre, hcnt, hgr⟩ := hrel
    have hat := cmpL_at p q i
    by_cases hlt : i < l
    · have hlt2 : (i : Int) < (l : Int) := by omega
      obtain ⟨b, o, rfl, hc⟩ := (HP.out.gb' HAP.out hgl hgr.out).atN (i := i) (by have := HL.out; omega)
      obtain ⟨x, hx⟩ : ∃ x, x = p.getD i 0 := ⟨_, rfl⟩
      rw [← hx] at hc
      by_cases hm : i < m
      · have hm2 : (i : Int) < (m : Int) := by omega
        obtain ⟨b', o', rfl, hc'⟩ := (HQ.out.gb' HBQ.out hgl hgr.out).atN (i := i) (by have := HM.out; omega)
        obtain ⟨y, hy⟩ : ∃ y, y = q.getD i 0 := ⟨_, rfl⟩
        rw [← hy] at hc'
        have hip : i < p.length := by have := HL.out; omega
        have hiq : i < q.length := by have := HM.out; omega
        have hxp : x = p[i] := by rw [hx]; simp [List.getD, hip]
        have hyq : y = q[i] := by rw [hy]; simp [List.getD, hiq]
        have hstep := lcp_step p q i hpre.out hip hiq
        rw [← hxp, ← hyq] at hstep
        have HCV := Lib.hid (count_v (x : Int) (y : Int) g i wr hcnt.out (by omega))
        by_cases hxy : x = y
        · have hb : bump (x : Int) (y : Int) i = i + 1 := by unfold bump; rw [if_pos (by omega)]
          have hcm : Lib.compareInt (x : Int) (y : Int) = 0 := by rw [hxy]; exact cmp_eq _
          rw [hb, hcm] at HCV
          have hpre2 := Lib.hid (hstep.1 hxy)
          have HCV2 := Lib.hid HCV.out
          clear hstep hxp hyq hx hy hat hb hcm HCV hxy
          go_wp2_with fail
          refine HCV2.out.mono ?_; rintro e w2 ⟨rfl, hc2, hg2⟩
          have HC2 := Lib.hid hc2
          have HG2 := Lib.hid (gb_trans hgr.out hg2)
          clear hc2 hg2
          go_wp2_with fail
          go_roundw
          case rel => exact ⟨i + 1, by omega, by go_num, by unfold Hid; have := hpre2.out; omega, HC2, HG2⟩
          case measure => simp [intOf]; omega
        · have hb : bump (x : Int) (y : Int) i = i := by unfold bump; rw [if_neg (by omega)]
          have hlen : i = (lcp p q).length := by have h1 := hpre.out; have h2 : ¬ i < (lcp p q).length := fun h => hxy (hstep.2 h); omega
          have hcm : Lib.compareInt (x : Int) (y : Int) = cmpL p q := by
            rw [hat hlen, dif_pos hip, dif_pos hiq, ← hxp, ← hyq, cmp_ne hxy]
          have hnz : (cmpL p q == 0) = false := by
            apply beq_eq_false_iff_ne.2
            rw [← hcm, cmp_ne hxy]
            split <;> decide
          rw [hb, hcm] at HCV
          have hnz2 : (cmpL p q != 0) = true := by rw [bne, hnz]; rfl
          obtain ⟨C, hC⟩ : ∃ C, C = cmpL p q := ⟨_, rfl⟩
          rw [← hC] at HCV hnz hnz2
          have HCC := Lib.hid hC
          have HLN := Lib.hid hlen
          have HCV2 := Lib.hid HCV.out
          clear hstep hxp hyq hx hy hat hb hcm HCV hxy hC hlen
          go_wp2_with fail
          refine HCV2.out.mono ?_; rintro e w2 ⟨rfl, hc2, hg2⟩
          have HC2 := Lib.hid hc2
          have HG2 := Lib.hid (gb_trans hgr.out hg2)
          clear hc2 hg2
          go_wp2_with fail
          go_ret
          exact ⟨ret_i64 HCC.out, by rw [← HLN.out]; exact HC2.out, HG2.out⟩
      · have hm2 : ¬ (i : Int) < (m : Int) := by omega
        have hlen : i = (lcp p q).length := by have h1 := hpre.out; have h2 := HLE.out; have := HM.out; omega
        have HX : Hid ((1 : Int) = cmpL p q) := by unfold Hid; rw [hat hlen, dif_pos (by have := HL.out; omega), dif_neg (by have := HM.out; omega)]
        have HLN := Lib.hid hlen
        have hm3 : m ≤ i := by omega
        clear hat hx hlen
        go_wp2_with fail
        go_ret
        exact ⟨ret_i64 HX.out, by rw [← HLN.out]; exact hcnt.out, hgr.out⟩
    · obtain rfl : i = l := by omega
      have hlt2 : ¬ (i : Int) < (i : Int) := by omega
      have hlen : i = (lcp p q).length := by have h1 := hpre.out; have h2 := HLE.out; have := HL.out; omega
      have HLN := Lib.hid hlen
      by_cases hm : i < m
      · have HX : Hid ((-1 : Int) = cmpL p q) := by unfold Hid; rw [hat hlen, dif_neg (by have := HL.out; omega), if_pos (by have := HM.out; omega)]
        clear hat hlen
        go_wp2_with fail
        go_ret
        exact ⟨ret_i64 HX.out, by rw [← HLN.out]; exact hcnt.out, hgr.out⟩
      · have HX : Hid ((0 : Int) = cmpL p q) := by unfold Hid; rw [hat hlen, dif_neg (by have := HL.out; omega), if_neg (by have := HM.out; omega)]
        clear hat hlen
        go_wp2_with fail
        go_ret
        exact ⟨ret_i64 HX.out, by rw [← HLN.out]; exact hcnt.out, hgr.out⟩

set_option maxHeartbeats 4000000 in
theorem compareParts_v (ao bo : Option Addr) (ca cb : Nat) (p q : List Nat) (w : World) (hp : RdN w ao ca p) (hq : RdN w bo cb q) (h5 : p.length ≤ 5) :
    Calls Tryd.prog 47 #[.slice ao p.length ca, .slice bo q.length cb] w fun e w' => e = .returned (.tuple #[.int .i64 (cmpL p q), .int .i64 ((lcp p q).length : Int)]) ∧ Below w.heap.size w w' := by
  have b0 := below_new w (.cells #[.int .i64 0] 3)
  have HC := Lib.hid (CompareFunc_v ao bo ca cb p q w.heap.size (w.alloc (.cells #[.int .i64 0] 3)) (hp.below b0) (hq.below b0) (fun h => hp.lt (by rw [ints_length]; exact h)) (fun h => hq.lt (by rw [ints_length]; exact h)) h5 (Cnt.new w))
  obtain ⟨C, hC⟩ : ∃ C, C = cmpL p q := ⟨_, rfl⟩
  obtain ⟨L, hL⟩ : ∃ L, L = (lcp p q).length := ⟨_, rfl⟩
  obtain ⟨l, hl⟩ : ∃ l, l = p.length := ⟨_, rfl⟩
  obtain ⟨m, hm⟩ : ∃ m, m = q.length := ⟨_, rfl⟩
  unfold Hid at HC
  rw [← hC, ← hL, ← hl, ← hm] at HC
  rw [← hC, ← hL, ← hl, ← hm]
  have HC2 := Lib.hid HC
  clear HC hp hq h5 hC hL hl hm
  go_enter Tryd.func47, Tryd.ntmps47
  go_wp2_with fail
  refine HC2.out.mono ?_; rintro e w2 ⟨rfl, hc2, hg2⟩
  have k0 := hc2.c0
  have kf := hc2.fz
  have HC3 := Lib.hid hc2
  have HG := Lib.hid (b0.trans (gb_below hg2 (by simp)))
  clear hc2 hg2 b0
  go_wp2_with fail
  go_region_with (fail)
  all_goals
    go_wp2_with fail
    have k2 : (w2.setCell ⟨w.heap.size, 0, none⟩ (.int .i64 (L : Int))).drew.cell? ⟨w.heap.size, 0, none⟩ = some (.int .i64 (L : Int)) := (HC3.out.set L).c0
    refine bodyPost_ret (v := .tuple #[.int .i64 C, .int .i64 (L : Int)]) (by simp [results, Tryd.results47, go_sem, k2]) rfl ?_
    exact ⟨rfl, (HG.out.setCell (Nat.le_refl _) _).drew⟩

set_option maxHeartbeats 4000000 in
theorem Within_v (s a : ByteArray) (w : World) (hev : ErrV w) : Calls Tryd.prog 35 #[.string s, .string a] w fun e w' => e = .returned (.bool (wi s a)) ∧ Below w.heap.size w w' := by
  go_enter Tryd.func35, Tryd.ntmps35
  go_wp2_with fail
  refine (partsOf_v s _ hev).mono ?_; rintro e w1 ⟨p, ao, ca, b, rfl, hr1, _, hb1, h1⟩
  have HB1 := Lib.hid hb1
  have HR1 := Lib.hid hr1
  have H1 := Lib.hid h1
  obtain ⟨l, hl⟩ : ∃ l, l = p.length := ⟨_, rfl⟩
  rw [← hl]
  have HL := Lib.hid hl
  clear hb1 hr1 h1 hl
  go_wp2_with fail
  refine (partsOf_v a _ (hev.below HB1.out)).mono ?_; rintro e w2 ⟨q, bo, cb, b', rfl, hr2, _, hb2, h2⟩
  have HB2 := Lib.hid (keep HB1.out hb2)
  have HR2 := Lib.hid hr2
  have HR3 := Lib.hid (HR1.out.below hb2)
  have H2 := Lib.hid h2
  obtain ⟨m, hm⟩ : ∃ m, m = q.length := ⟨_, rfl⟩
  rw [← hm]
  have HM := Lib.hid hm
  clear hb2 hr2 h2 hm
  by_cases hbb : b = true ∧ b' = true
  · obtain ⟨rfl, rfl⟩ := hbb
    have hp : PO s = some p := by rcases H1.out with h | h; exact h.2; cases h.1
    have hq : PO a = some q := by rcases H2.out with h | h; exact h.2; cases h.1
    have HX : Hid ((((lcp p q).length : Int) == (m : Int)) = wi s a) := by
      unfold Hid wi
      rw [hp, hq]
      show _ = decide (q <+: p)
      have := lcp_pre p q
      by_cases h : q <+: p
      · rw [decide_eq_true h]; exact beq_iff_eq.2 (by have := this.2 h; have := HM.out; omega)
      · rw [decide_eq_false h]; exact beq_eq_false_iff_ne.2 (fun e => h (this.1 (by have := HM.out; omega)))
    have HC := Lib.hid (compareParts_v ao bo ca cb p q w2 HR3.out HR2.out (PO_some hp).2.1)
    obtain ⟨L, hL⟩ : ∃ L, L = (lcp p q).length := ⟨_, rfl⟩
    obtain ⟨C, hC⟩ : ∃ C, C = cmpL p q := ⟨_, rfl⟩
    unfold Hid at HC HX
    rw [← HL.out, ← HM.out, ← hL, ← hC] at HC
    rw [← hL] at HX
    have HC2 := Lib.hid HC
    have HX2 := Lib.hid HX
    clear HC HX hL hC hp hq
    go_wp2_with fail
    refine HC2.out.mono ?_; rintro e w3 ⟨rfl, hb3⟩
    have HB3 := Lib.hid (keep HB2.out hb3)
    clear hb3
    go_wp2_with fail
    go_ret
    exact ⟨ret_bool HX2.out, HB3.out⟩
  · have HX : Hid (false = wi s a) := by
      unfold Hid wi
      rcases H1.out with h | h
      · rcases H2.out with h' | h'
        · exact absurd ⟨h.1, h'.1⟩ hbb
        · rw [h.2, h'.2.1]
      · rw [h.2.1]
    cases b
    · clear hbb
      go_wp2_with fail
      go_ret
      exact ⟨ret_bool HX.out, HB2.out⟩
    · have : b' = false := by cases b' <;> simp_all
      subst this
      clear hbb
      go_wp2_with fail
      go_ret
      exact ⟨ret_bool HX.out, HB2.out⟩
end Go.Proofs.YtkodfmpaeemaiaaDoor.C6
