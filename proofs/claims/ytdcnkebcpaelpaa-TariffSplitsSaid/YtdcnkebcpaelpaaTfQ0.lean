import Derived.Test.YtdcnkebcpaelpaaTfK0
import Derived.Test.YtdcnkebcpaelpaaTfG0
import Derived.Test.YtdcnkebcpaelpaaRats2
import Derived.Deep.RegionLaw
import Derived.Deep.Cut
/- Layer 14: the law's amount, and the reference's Marginal. -/
namespace Go.Proofs.Ytdcnkebcpaelpaa.T14
open Go.RowKit Go.Sort C6

set_option maxHeartbeats 8000000 in
set_option maxRecDepth 100000 in
theorem rMarginal_v (st : Int) (ao : Option Addr) (cap : Nat) (bs : List (Int × Int)) (am : Int) (w : World) (h : RdK w ao cap bs) (hl : bs.length ≤ 100) :
    Calls Try.prog 47 #[.agg #[.int .i64 st, .slice ao bs.length cap], .int .i64 am] w (ZE (aE st bs am) (mrgQ st bs am) w) := by
  obtain ⟨n, hn⟩ : ∃ n, n = bs.length := ⟨_, rfl⟩
  have a1 := h.1
  rw [← hn] at a1 hl ⊢
  obtain ⟨W1, hW1⟩ : ∃ W, W = w.alloc (.cells #[.int .i64 st, .slice ao n cap] 24) := ⟨_, rfl⟩
  have b1 : Below w.heap.size w W1 := by rw [hW1]; exact below_new w _
  have t1 : TfBox W1 w.heap.size st ao n cap := by rw [hW1]; exact TfBox.new w _ _ _ _
  have B1 := Lib.hid b1
  have T1 := Lib.hid t1
  have HC : Hid (∀ w', Below w.heap.size w w' → Calls Try.prog 26 #[.agg #[.int .i64 st, .slice ao n cap]] w' (ErrIs (tE st bs) w')) := fun w' hb => by
    have := rValidate_v st ao cap bs w' (h.below hb) (by omega)
    rwa [← hn] at this
  have HR := Lib.hid h
  have HN := Lib.hid hn
  have HA1 : Hid (tE st bs ≠ 0 → aE st bs am = tE st bs ∧ mrgQ st bs am = 0) := fun h => ⟨aE_t h, by unfold mrgQ; rw [if_neg]; rw [aE_t h]; exact h⟩
  have HA2 : Hid (tE st bs = 0 → (am < 0 ∨ 1099511627776 < am) → aE st bs am = 142 ∧ mrgQ st bs am = 0) := fun h h2 => ⟨aE_a h h2, by unfold mrgQ; rw [if_neg]; rw [aE_a h h2]; decide⟩
  have HA3 : Hid (tE st bs = 0 → 0 ≤ am → am ≤ 1099511627776 → aE st bs am = 0 ∧ mrgQ st bs am = mrg am bs) := fun h h1 h2 => ⟨aE_zero h h1 h2, by unfold mrgQ; rw [if_pos (aE_zero h h1 h2)]⟩
  obtain ⟨er, her⟩ : ∃ er, er = tE st bs := ⟨_, rfl⟩
  rw [← her] at HC HA1 HA2 HA3
  obtain ⟨u0, u1⟩ := t1.cells
  rw [hW1] at u0 u1
  have HU := Lib.hid hW1
  clear h hn b1 t1 her hW1
  by_cases h0 : er = 0
  · subst h0
    have d0 : ((0 : Int) != 0) = false := rfl
    by_cases hr : am < 0 ∨ 1099511627776 < am
    · obtain ⟨e1, e2⟩ := HA2.out rfl hr
      rw [e1, e2]
      clear e1 e2 HA1 HA2 HA3
      by_cases ha : am < 0
      · have d1 : decide (am < 0) = true := decide_eq_true ha
        clear ha hr
        go_enter Try.func47, Try.ntmps47
        go_wp2_with fail
        refine (HC.out _ (by rw [← HU.out]; exact B1.out)).mono ?_; rintro e w2 ⟨rfl, hB2⟩
        rw [← HU.out] at hB2
        have HW2 : Hid (Below w.heap.size w w2) := B1.out.trans (hB2.mono B1.out.size)
        clear hB2
        go_wp2_with fail
        refine bodyPost_ret (v := .tuple #[.int .i64 0, .int .i64 142]) (by simp [results, Try.results47, go_sem]) rfl ?_
        exact ⟨rfl, HW2.out⟩
      · have d1 : decide (am < 0) = false := decide_eq_false ha
        have d2 : decide (1099511627776 < am) = true := decide_eq_true (by omega)
        clear ha hr
        go_enter Try.func47, Try.ntmps47
        go_wp2_with fail
        refine (HC.out _ (by rw [← HU.out]; exact B1.out)).mono ?_; rintro e w2 ⟨rfl, hB2⟩
        rw [← HU.out] at hB2
        have HW2 : Hid (Below w.heap.size w w2) := B1.out.trans (hB2.mono B1.out.size)
        clear hB2
        go_wp2_with fail
        refine bodyPost_ret (v := .tuple #[.int .i64 0, .int .i64 142]) (by simp [results, Try.results47, go_sem]) rfl ?_
        exact ⟨rfl, HW2.out⟩
    · have d1 : decide (am < 0) = false := decide_eq_false (by omega)
      have d2 : decide (1099511627776 < am) = false := decide_eq_false (by omega)
      obtain ⟨e1, e2⟩ := HA3.out rfl (by omega) (by omega)
      rw [e1, e2]
      clear e1 e2 HA1 HA2 HA3 hr
      go_enter Try.func47, Try.ntmps47
      go_wp2_with fail
      refine (HC.out _ (by rw [← HU.out]; exact B1.out)).mono ?_; rintro e w2 ⟨rfl, hB2⟩
      rw [← HU.out] at hB2
      have T2 : Hid (TfBox w2 w.heap.size st ao n cap) := T1.out.below hB2 T1.out.lt
      have HW2 : Hid (Below w.heap.size w w2) := B1.out.trans (hB2.mono B1.out.size)
      clear hB2 u0 u1
      obtain ⟨u0, u1⟩ := T2.out.cells
      go_wp2_with fail
      go_loopw [23] (fun s23 wr => ∃ i : Nat, i ≤ n ∧ s23 = .int .i64 (i : Int) ∧ Hid (mrg am (bs.drop i) = mrg am bs) ∧ Hid (Below w2.heap.size w2 wr)) (fun s23 _ => n - (intOf s23).toNat)
      case atStart => exact ⟨0, by omega, rfl, (show mrg am (bs.drop 0) = _ by simp), Below.refl _ _⟩
      case round =>
        obtain ⟨i, hin, rfl, hm, hbl⟩ := hrel
        have HW : Hid (Below w.heap.size w wr) := HW2.out.trans (hbl.out.mono HW2.out.size)
        by_cases hlt : i < n
        · have hlt2 : (i : Int) < (n : Int) := by omega
          obtain ⟨b, o, rfl, hc⟩ := (HR.out.below HW.out).at (i := i) (by rw [← HN.out]; exact hlt)
          obtain ⟨c0, c1⟩ := hc i (by rw [← HN.out]; exact hlt)
          obtain ⟨u, hu⟩ : ∃ u, u = (bs.getD i (0, 0)).1 := ⟨_, rfl⟩
          obtain ⟨p, hp⟩ : ∃ p, p = (bs.getD i (0, 0)).2 := ⟨_, rfl⟩
          rw [← hu] at c0
          rw [← hp] at c1
          have HD : Hid (mrg am bs = if u = 0 ∨ am < u then p else mrg am (bs.drop (i + 1))) := by
            unfold Hid
            rw [← hm.out, mrg_drop bs am i (by rw [← HN.out]; exact hlt), hu, hp]
            rfl
          have HB : Hid (Below w2.heap.size w2 (wr.alloc (.cells #[.int .i64 u, .int .i64 p] 51))) := hbl.out.alloc hbl.out.size _
          have HB2 : Hid (Below w.heap.size w (wr.alloc (.cells #[.int .i64 u, .int .i64 p] 51))) := HW2.out.trans (HB.out.mono HW2.out.size)
          clear hu hp hc
          by_cases h1 : am < u
          · have d3 : decide (am < u) = true := decide_eq_true h1
            have hv := Lib.hid (HD.out.trans (if_pos (.inr h1)))
            clear h1
            go_wp2_with fail
            refine bodyPost_ret (v := .tuple #[.int .i64 p, .int .i64 0]) (by simp [results, Try.results47, go_sem]) rfl ?_
            exact ⟨by rw [hv.out], HB2.out⟩
          · have d3 : decide (am < u) = false := decide_eq_false h1
            by_cases h2 : u = 0
            · have d4 : (u == 0) = true := beq_iff_eq.2 h2
              have hv := Lib.hid (HD.out.trans (if_pos (.inl h2)))
              clear h1 h2
              go_wp2_with fail
              refine bodyPost_ret (v := .tuple #[.int .i64 p, .int .i64 0]) (by simp [results, Try.results47, go_sem]) rfl ?_
              exact ⟨by rw [hv.out], HB2.out⟩
            · have d4 : (u == 0) = false := beq_eq_false_iff_ne.2 h2
              have hv := Lib.hid (HD.out.trans (if_neg (by rintro (h | h); exact h2 h; exact h1 h)))
              clear h1 h2
              go_wp2_with fail
              go_roundw
              case rel => exact ⟨i + 1, by omega, by simp, hv.out.symm, HB.out⟩
              case measure => simp [intOf]; omega
        · obtain rfl : i = n := by omega
          have hz : mrg am bs = 0 := by
            rw [← hm.out, List.drop_eq_nil_of_le (by rw [← HN.out]; exact Nat.le_refl _)]
            rfl
          have HZ := Lib.hid hz
          clear hz
          go_wp2_with fail
          refine bodyPost_ret (v := .tuple #[.int .i64 0, .int .i64 0]) (by simp [results, Try.results47, go_sem]) rfl ?_
          exact ⟨by rw [HZ.out], HW.out⟩
  · have d0 : (er != 0) = true := bne_iff_ne.2 h0
    obtain ⟨e1, e2⟩ := HA1.out h0
    rw [e1, e2]
    clear e1 e2 HA1 HA2 HA3 h0
    go_enter Try.func47, Try.ntmps47
    go_wp2_with fail
    refine (HC.out _ (by rw [← HU.out]; exact B1.out)).mono ?_; rintro e w2 ⟨rfl, hB2⟩
    rw [← HU.out] at hB2
    have HW2 : Hid (Below w.heap.size w w2) := B1.out.trans (hB2.mono B1.out.size)
    clear hB2
    go_wp2_with fail
    refine bodyPost_ret (v := .tuple #[.int .i64 0, .int .i64 er]) (by simp [results, Try.results47, go_sem]) rfl ?_
    exact ⟨rfl, HW2.out⟩
end Go.Proofs.Ytdcnkebcpaelpaa.T14
/- Layer 14: the reference's Bill. -/
namespace Go.Proofs.Ytdcnkebcpaelpaa.T14
open Go.RowKit Go.Sort C6

theorem top_zero {bs : List (Int × Int)} {a : Int} {i : Nat} (h : up bs i = 0) : top bs a i = a := by unfold top; rw [if_pos h]
theorem top_min {bs : List (Int × Int)} {a : Int} {i : Nat} (h : ¬ up bs i = 0) : top bs a i = min a (up bs i) := by unfold top; rw [if_neg h]

set_option maxHeartbeats 16000000 in
set_option maxRecDepth 100000 in
theorem rBill_v (st : Int) (ao : Option Addr) (cap : Nat) (bs : List (Int × Int)) (am : Int) (w : World) (h : RdK w ao cap bs) (hl : bs.length ≤ 100) :
    Calls Try.prog 28 #[.agg #[.int .i64 st, .slice ao bs.length cap], .int .i64 am] w (MkE (aE st bs am) ((bilQ st bs am : Int) : Rat) 5 w) := by
  obtain ⟨n, hn⟩ : ∃ n, n = bs.length := ⟨_, rfl⟩
  have a1 := h.1
  rw [← hn] at a1 hl ⊢
  obtain ⟨W1, hW1⟩ : ∃ W, W = w.alloc (.cells #[.int .i64 st, .slice ao n cap] 24) := ⟨_, rfl⟩
  obtain ⟨W2, hW2⟩ : ∃ W, W = W1.alloc (.cells #[.bool false, .slice none 0 0, .slice none 0 0] 40) := ⟨_, rfl⟩
  have s1 : W1.heap.size = w.heap.size + 1 := by rw [hW1]; simp
  have s2 : W2.heap.size = w.heap.size + 1 + 1 := by rw [hW2]; simp [s1]
  have b1 : Below w.heap.size w W1 := by rw [hW1]; exact below_new w _
  have b2 : Below W1.heap.size W1 W2 := by rw [hW2]; exact below_new W1 _
  have t1 : TfBox W1 w.heap.size st ao n cap := by rw [hW1]; exact TfBox.new w _ _ _ _
  have t2 : TfBox W2 w.heap.size st ao n cap := carry t1 b2
  have r2 : W2.heap[w.heap.size + 1]? = some (.cells #[.bool false, .slice none 0 0, .slice none 0 0] 40 (0, 0)) := by rw [hW2, ← s1]; exact heap_alloc_new _ _
  have HB2 : Hid (Below w.heap.size w W2) := b1.trans (b2.mono b1.size)
  have HC : Hid (∀ w', Below w.heap.size w w' → Calls Try.prog 47 #[.agg #[.int .i64 st, .slice ao n cap], .int .i64 am] w' (ZE (aE st bs am) (mrgQ st bs am) w')) := fun w' hb => by
    have := rMarginal_v st ao cap bs am w' (h.below hb) (by omega)
    rwa [← hn] at this
  have HR := Lib.hid h
  have HN := Lib.hid hn
  have HQ1 : Hid (aE st bs am = 0 → bilQ st bs am = bil st bs am) := fun h => if_pos h
  have HQ0 : Hid (aE st bs am ≠ 0 → bilQ st bs am = 0) := fun h => if_neg h
  have HOK : Hid (aE st bs am = 0 → OkB bs ∧ 0 ≤ am ∧ am ≤ 1099511627776 ∧ 0 ≤ st ∧ st ≤ 1099511627776) := fun he => by
    obtain ⟨h1, h2, h3⟩ := aE_ok he
    obtain ⟨h4, h5, h6⟩ := tE_ok h1
    exact ⟨h6, h2, h3, h4, h5⟩
  obtain ⟨er, her⟩ : ∃ er, er = aE st bs am := ⟨_, rfl⟩
  obtain ⟨mq, hmq⟩ : ∃ mq, mq = mrgQ st bs am := ⟨_, rfl⟩
  rw [← her, ← hmq] at HC
  rw [← her] at HQ1 HQ0 HOK ⊢
  have T2 := Lib.hid t2
  have R2 := Lib.hid r2
  have S2 := Lib.hid s2
  obtain ⟨u0, u1⟩ := t2.cells
  have HU : Hid (W2 = (w.alloc (.cells #[.int .i64 st, .slice ao n cap] 24)).alloc (.cells #[.bool false, .slice none 0 0, .slice none 0 0] 40)) := by unfold Hid; rw [hW2, hW1]
  clear h hn her hmq s1 s2 b1 b2 t1 t2 r2 hW1 hW2
  have rest : ∀ w2, Below W2.heap.size W2 w2 → Hid (w2.heap[w.heap.size + 1]? = some (.cells #[.bool false, .slice none 0 0, .slice none 0 0] 40 (0, 0)) ∧ TfBox w2 w.heap.size st ao n cap ∧ Below w.heap.size w w2) := fun w2 hb => ⟨carry R2.out hb, carry T2.out hb, HB2.out.trans (hb.mono HB2.out.size)⟩
  have REST := Lib.hid rest
  clear rest
  by_cases h0 : er = 0
  · subst h0
    have d0 : ((0 : Int) != 0) = false := rfl
    obtain ⟨hok, ha0, ha1, hs0, hs1⟩ := HOK.out rfl
    have HOK2 := Lib.hid hok
    have HAM : Hid (0 ≤ am ∧ am ≤ 1099511627776) := ⟨ha0, ha1⟩
    have HST : Hid (0 ≤ st ∧ st ≤ 1099511627776) := ⟨hs0, hs1⟩
    have HQ := Lib.hid (HQ1.out rfl)
    clear hok ha0 ha1 hs0 hs1 HOK HQ1 HQ0
    have FI : Hid (∀ w', Calls Try.prog 19 #[.int .i64 st] w' (Mk (st : Rat) 5 w')) := fun w' => rFromInt_z st (by have := HST.out; omega) (by have := HST.out; omega) w'
    go_enter Try.func28, Try.ntmps28
    go_wp2_with fail
    rw [← HU.out]
    refine (HC.out _ HB2.out).mono ?_; rintro e w2 ⟨rfl, hB2⟩
    have K2 := REST.out w2 hB2
    have S22 : Hid (w.heap.size + 1 + 1 ≤ w2.heap.size) := by have := hB2.size; have := S2.out; unfold Hid; omega
    clear hB2 u0 u1
    obtain ⟨u0, u1⟩ := K2.out.2.1.cells
    go_wp2_with fail
    refine (FI.out _).mono ?_; rintro e W4 ⟨v4, rfl, ⟨s4, a4, n4, c4, o4, m4, d4, rfl, q4⟩, b4⟩
    obtain ⟨W5, hW5⟩ : ∃ W, W = W4.alloc (.cells #[.bool s4, .slice a4 n4 c4, .slice o4 m4 d4] 40) := ⟨_, rfl⟩
    obtain ⟨g, hg⟩ : ∃ g, g = W4.heap.size := ⟨_, rfl⟩
    have b5 : Below W4.heap.size W4 W5 := by rw [hW5]; exact below_new W4 _
    have hgx : W5.heap[g]? = some (.cells #[.bool s4, .slice a4 n4 c4, .slice o4 m4 d4] 40 (0, 0)) := by rw [hW5, hg]; exact heap_alloc_new _ _
    have B5 : Below w2.heap.size w2 W5 := b4.trans (b5.mono b4.size)
    have T5 : TfBox W5 w.heap.size st ao n cap := carry K2.out.2.1 B5
    obtain ⟨p0, p1⟩ := T5.cells
    have R5 : Hid (W5.heap[w.heap.size + 1]? = some (.cells #[.bool false, .slice none 0 0, .slice none 0 0] 40 (0, 0))) := carry K2.out.1 B5
    have BOX : Hid (BoxN W5 g ((st : Int) : Rat) 5) := ⟨_, _, _, _, _, _, _, hgx, q4.below b5⟩
    have HG : Hid (w.heap.size + 1 < g) := by have := b4.size; have := S22.out; unfold Hid; omega
    have HW5 : Hid (Below w.heap.size w W5) := K2.out.2.2.trans (B5.mono K2.out.2.2.size)
    have HSZ : Hid (g < W5.heap.size) := (Array.getElem?_eq_some_iff.1 hgx).1
    have K5 : Hid (RdK W5 ao cap bs) := HR.out.below HW5.out
    have L5 : Hid (offB ao bs (fun b => b < g)) := fun h0 b o e => by have := HR.out.lt h0 b o e; have := HG.out; show b < g; omega
    have HGG := Lib.hid hg
    have HV := Lib.hid hW5
    rw [hW5] at p0 p1
    clear b4 b5 hgx B5 T5 q4 u0 u1 hg hW5
    go_wp2_with fail
    rw [← HV.out]
    try rw [← HGG.out]
    clear HV HGG p0 p1
    go_loopw [9, 29] (fun s9 s29 wr => ∃ i : Nat, i ≤ n ∧ s29 = .int .i64 (i : Int) ∧ s9 = .int .i64 (prev bs i) ∧ Hid (BoxN wr g ((acc st bs am i : Int) : Rat) 5) ∧ Hid (Below g W5 wr)) (fun _ s29 _ => n - (intOf s29).toNat)
    case atStart => exact ⟨0, by omega, rfl, rfl, BOX.out, Below.refl _ _⟩
    case round =>
      obtain ⟨i, hin, rfl, rfl, hbx, hbl⟩ := hrel
      by_cases hlt : i < n
      · have hlt2 : (i : Int) < (n : Int) := by omega
        obtain ⟨b, o, rfl, hc⟩ := (K5.out.keep L5.out hbl.out).at (i := i) (by rw [← HN.out]; exact hlt)
        obtain ⟨c0, c1⟩ := hc i (by rw [← HN.out]; exact hlt)
        obtain ⟨u, hu⟩ : ∃ u, u = (bs.getD i (0, 0)).1 := ⟨_, rfl⟩
        obtain ⟨p, hp⟩ : ∃ p, p = (bs.getD i (0, 0)).2 := ⟨_, rfl⟩
        obtain ⟨q, hq⟩ : ∃ q, q = prev bs i := ⟨_, rfl⟩
        obtain ⟨cn, hcn⟩ : ∃ q, q = cnt bs am i := ⟨_, rfl⟩
        obtain ⟨A, hA⟩ : ∃ q, q = acc st bs am i := ⟨_, rfl⟩
        obtain ⟨mh, hmh⟩ : ∃ q, q = top bs am i := ⟨_, rfl⟩
        rw [← hu] at c0
        rw [← hp] at c1
        rw [← hq]
        have hi' : i < bs.length := by rw [← HN.out]; exact hlt
        have hpm : 0 ≤ p ∧ p ≤ 1099511627776 := by rw [hp]; exact (getD_mag HOK2.out i).2.2
        have hqm : 0 ≤ q ∧ q ≤ 1099511627776 := by rw [hq]; exact prev_mag HOK2.out i
        have hcm : 0 ≤ cn ∧ cn ≤ 1099511627776 := by rw [hcn]; exact cnt_mag HOK2.out HAM.out.1 HAM.out.2 i
        have hAm : 0 ≤ A ∧ A ≤ 1099511627776 + 8 * 1208925819614629174706176 := by
          have := HOK2.out.acc_mag HST.out.1 HST.out.2 HAM.out.1 HAM.out.2 i (by omega)
          have h8 := HOK2.out.len
          rw [hA]; omega
        have hcpm : 0 ≤ cn * p ∧ cn * p ≤ 1208925819614629174706176 := by rw [hcn, hp]; exact part_mag HOK2.out HAM.out.1 HAM.out.2 i
        have hmm : mh ≤ am := by rw [hmh]; exact top_le
        have HNX : Hid (acc st bs am (i + 1) = A + cn * p ∧ prev bs (i + 1) = u) := ⟨by rw [hA, hcn, hp]; rfl, by rw [hu]; rfl⟩
        have HGT : Hid (q < mh → mh - q = cn) := fun h => by rw [hmh, hq, hcn]; rw [hmh, hq] at h; exact (cnt_pos (by omega)).symm
        have HLE : Hid (¬ q < mh → cn = 0) := fun h => by rw [hcn]; rw [hmh, hq] at h; exact cnt_zero (by omega)
        have HMZ : Hid (u = 0 → mh = am) := fun h => by rw [hmh]; exact top_zero (by rw [hu] at h; exact h)
        have HMN : Hid (¬ u = 0 → min am u = mh) := fun h => by rw [hmh, hu]; exact (top_min (by rw [hu] at h; exact h)).symm
        have HCP : Hid ((cn * p).natAbs < pw 5 ∧ (A + cn * p).natAbs < pw 5) := ⟨by rw [pw5]; omega, by rw [pw5]; omega⟩
        have HPM := Lib.hid hpm
        have HQM := Lib.hid hqm
        have HCM := Lib.hid hcm
        have HMM : Hid (mh ≤ 1099511627776) := by have := HAM.out; unfold Hid; omega
        obtain ⟨s, a, nn, c, o2, m, d, hbx1, hbq⟩ := hbx.out
        rw [← hA] at hbq
        obtain ⟨W, hW⟩ : ∃ W, W = wr.alloc (.cells #[.int .i64 u, .int .i64 p] 51) := ⟨_, rfl⟩
        have bW : Below wr.heap.size wr W := by rw [hW]; exact below_new wr _
        obtain ⟨B, hB0⟩ : ∃ B, B = wr.heap.size := ⟨_, rfl⟩
        have XG : Hid (W.heap[g]? = some (.cells #[.bool s, .slice a nn c, .slice o2 m d] 40 (0, 0))) := carry hbx1 bW
        have HQ2 : Hid (CQ 0 W s a nn c o2 m d (A : Rat) 5) := hbq.below bW
        have hgs : g ≤ wr.heap.size := Nat.le_trans (Nat.le_of_lt HSZ.out) hbl.out.size
        have HBL : Hid (Below g W5 W) := hbl.out.trans (bW.mono hgs)
        have HKB : Hid (W.heap[B]? = some (.cells #[.int .i64 u, .int .i64 p] 51 (0, 0))) := by rw [hW, hB0]; exact heap_alloc_new _ _
        have kb0 : W.cell? ⟨B, 0, none⟩ = some (.int .i64 u) := by simp [World.cell?, HKB.out]
        have kb1 : W.cell? ⟨B, 1, none⟩ = some (.int .i64 p) := by simp [World.cell?, HKB.out]
        have HBB := Lib.hid hB0
        have HWW := Lib.hid hW
        have HA := Lib.hid hA
        clear hu hp hq hcn hA hmh hi' hpm hqm hcm hAm hcpm hmm hbx1 hbq hc bW hgs hB0 hW hbx hbl
        go_upto_region 9 with fail
        rw [← HWW.out]
        try rw [← HBB.out]
        clear HWW HBB c0 c1
        by_cases hu0 : u = 0
        · have d1 : (u != 0) = false := by rw [hu0]; rfl
          have hm := HMZ.out hu0
          have HU0 := Lib.hid hu0
          clear HMZ HMN hu0
          subst hm
          by_cases hgt : q < mh
          · have d2 : decide (q < mh) = true := decide_eq_true hgt
            have HSUB := Lib.hid (HGT.out hgt)
            clear hgt HGT HLE
            go_wp2_with fail
            refine wp_region_any (by kernel_rfl) ?_
            refine region_ssa [44, 45, 46, 47, 48, 49, 50, 51, 52, 53] (ExtT 40 g W) (ExtT 40 g) (LsP [kQ (((A : Int) : Rat)) (5), kV (.int .i64 mh), kV (.int .i64 q), kV (.int .i64 cn), kQ (((cn : Int) : Rat)) (5), kV (.pointer (some ⟨B, 1, none⟩)), kV (.int .i64 p), kQ (((p : Int) : Rat)) (5), kQ (((cn * p : Int) : Rat)) (5), kQ (((A + cn * p : Int) : Rat)) (5), kAny]) (fun D f w1 => (D 10 = false → w1.heap[g]? = some (.cells #[.bool s, .slice a nn c, .slice o2 m d] 40 (0, 0))) ∧ (D 10 = true → HoldsT 40 w1 (.pointer (some ⟨g, 0, none⟩)) (f 53))) (fun f => rfl) (by kernel_rfl) (by kernel_rfl) ?_ ?_ ?_ ?_ (AllFrom.below (n := 11) ?_) ?_
            · exact ExtT.drewT (ExtT.refl 40 g _)
            · intro f; exact ⟨fun _ => XG.out, fun h => (by cases h)⟩
            · intro jx vx w1 w2 _ h hE; exact LsP.ext (StTL.all (l := [kQ (((A : Int) : Rat)) (5), kV (.int .i64 mh), kV (.int .i64 q), kV (.int .i64 cn), kQ (((cn : Int) : Rat)) (5), kV (.pointer (some ⟨B, 1, none⟩)), kV (.int .i64 p), kQ (((p : Int) : Rat)) (5), kQ (((cn * p : Int) : Rat)) (5), kQ (((A + cn * p : Int) : Rat)) (5), kAny]) ⟨StT.q (by decide) _ _, StT.v _ _, StT.v _ _, StT.v _ _, StT.q (by decide) _ _, StT.v _ _, StT.v _ _, StT.q (by decide) _ _, StT.q (by decide) _ _, StT.q (by decide) _ _, StT.any _, trivial⟩) jx vx w1 w2 h hE
            · intro w1 w2 hB hE; exact ExtT.trans hB hE
            · refine AllFrom.step (m := 10) (j := 1) rfl ?_ ?_
              · intro D f w1 hD hB hR hp hcl hX
                have hbx := hX.1 (eq_false_of_ne_true (no_of (D := D) (hcl 10) (by kernel_rfl) hD))
                have HBX := Lib.hid hbx
                have HEB := Lib.hid hB
                have hgs : g < w1.heap.size := (Array.getElem?_eq_some_iff.1 hbx).1
                obtain ⟨o0, o1, o3, z0, z1, z2⟩ := at_block HBX.out
                have kb : w1.heap[B]? = some (.cells #[.int .i64 u, .int .i64 p] 51 (0, 0)) := ExtT.other (by decide) HEB.out HKB.out
                have j1 : w1.cell? ⟨B, 1, none⟩ = some (.int .i64 p) := by simp [World.cell?, kb]
                clear kb
                have hnov := Lib.hid (no_of (D := D) (hcl 10) (by kernel_rfl) hD)
                clear hX hR hp hbx hB hcl
                refine wpOp_step rfl (fun K hK => ?_)
                simp only [putAll, Act.put, List.setIfInBounds_toArray, List.set_cons_succ, List.set_cons_zero]
                go_simp
                exact hK _ _ ⟨_, (by show _ = Act.put _ (some 44) _; simp only [putAll, Act.put, List.setIfInBounds_toArray, List.set_cons_succ, List.set_cons_zero, *]), ⟨_, _, _, _, _, _, _, rfl, CQ.extT (by decide) HQ2.out HEB.out⟩, ExtT.refl _ _ _, ⟨fun _ => HBX.out, fun h => absurd h hnov.out⟩⟩
              refine AllFrom.step (m := 9) (j := 2) rfl ?_ ?_
              · intro D f w1 hD hB hR hp hcl hX
                have hbx := hX.1 (eq_false_of_ne_true (no_of (D := D) (hcl 10) (by kernel_rfl) hD))
                have HBX := Lib.hid hbx
                have HEB := Lib.hid hB
                have hgs : g < w1.heap.size := (Array.getElem?_eq_some_iff.1 hbx).1
                have hnov := Lib.hid (no_of (D := D) (hcl 10) (by kernel_rfl) hD)
                clear hX hR hp hbx hB hcl
                refine wpOp_step rfl (fun K hK => ?_)
                simp only [putAll, Act.put, List.setIfInBounds_toArray, List.set_cons_succ, List.set_cons_zero]
                go_simp
                exact hK _ _ ⟨.int .i64 mh, (by show _ = Act.put _ (some 45) _; simp only [putAll, Act.put, List.setIfInBounds_toArray, List.set_cons_succ, List.set_cons_zero, *]), rfl, ExtT.refl _ _ _, ⟨fun _ => HBX.out, fun h => absurd h hnov.out⟩⟩
              refine AllFrom.step (m := 8) (j := 3) rfl ?_ ?_
              · intro D f w1 hD hB hR hp hcl hX
                have hbx := hX.1 (eq_false_of_ne_true (no_of (D := D) (hcl 10) (by kernel_rfl) hD))
                have HBX := Lib.hid hbx
                have HEB := Lib.hid hB
                have hgs : g < w1.heap.size := (Array.getElem?_eq_some_iff.1 hbx).1
                have hnov := Lib.hid (no_of (D := D) (hcl 10) (by kernel_rfl) hD)
                clear hX hR hp hbx hB hcl
                refine wpOp_step rfl (fun K hK => ?_)
                simp only [putAll, Act.put, List.setIfInBounds_toArray, List.set_cons_succ, List.set_cons_zero]
                go_simp
                exact hK _ _ ⟨.int .i64 q, (by show _ = Act.put _ (some 46) _; simp only [putAll, Act.put, List.setIfInBounds_toArray, List.set_cons_succ, List.set_cons_zero, *]), rfl, ExtT.refl _ _ _, ⟨fun _ => HBX.out, fun h => absurd h hnov.out⟩⟩
              refine AllFrom.step (m := 7) (j := 4) rfl ?_ ?_
              · intro D f w1 hD hB hR hp hcl hX
                have hbx := hX.1 (eq_false_of_ne_true (no_of (D := D) (hcl 10) (by kernel_rfl) hD))
                have HBX := Lib.hid hbx
                have HEB := Lib.hid hB
                have hgs : g < w1.heap.size := (Array.getElem?_eq_some_iff.1 hbx).1
                have e1 : f 45 = .int .i64 mh := (hp_at hp 1 (by kernel_rfl)).2
                have e2 : f 46 = .int .i64 q := (hp_at hp 2 (by kernel_rfl)).2
                have hmn2 := HSUB.out
                have hqm := HQM.out
                have hmm := HMM.out
                have hcm := HCM.out
                have hwr := wrap_mid hcm.1 (by omega)
                have hnov := Lib.hid (no_of (D := D) (hcl 10) (by kernel_rfl) hD)
                clear hX hR hp hbx hB hcl
                refine wpOp_step rfl (fun K hK => ?_)
                simp only [putAll, Act.put, List.setIfInBounds_toArray, List.set_cons_succ, List.set_cons_zero]
                go_simp
                exact hK _ _ ⟨.int .i64 cn, (by show _ = Act.put _ (some 47) _; simp only [putAll, Act.put, List.setIfInBounds_toArray, List.set_cons_succ, List.set_cons_zero, *]), rfl, ExtT.refl _ _ _, ⟨fun _ => HBX.out, fun h => absurd h hnov.out⟩⟩
              refine AllFrom.step (m := 6) (j := 5) rfl ?_ ?_
              · intro D f w1 hD hB hR hp hcl hX
                have hbx := hX.1 (eq_false_of_ne_true (no_of (D := D) (hcl 10) (by kernel_rfl) hD))
                have HBX := Lib.hid hbx
                have HEB := Lib.hid hB
                have hgs : g < w1.heap.size := (Array.getElem?_eq_some_iff.1 hbx).1
                have e3 : f 47 = .int .i64 cn := (hp_at hp 3 (by kernel_rfl)).2
                have hnov := Lib.hid (no_of (D := D) (hcl 10) (by kernel_rfl) hD)
                clear hX hR hp hbx hB hcl
                refine wpOp_step rfl (fun K hK => ?_)
                simp only [putAll, Act.put, List.setIfInBounds_toArray, List.set_cons_succ, List.set_cons_zero]
                go_simp
                refine (rFromInt_z cn (by have := HCM.out; omega) (by have := HCM.out; omega) _).mono ?_
                rintro e w2 h9
                obtain ⟨v9, rfl, hq9, hb⟩ := h9
                replace hq9 := Lib.hid hq9
                go_simp
                exact hK _ _ ⟨v9, (by show _ = Act.put _ (some 48) _; simp only [putAll, Act.put, List.setIfInBounds_toArray, List.set_cons_succ, List.set_cons_zero, *]), hq9.out, ExtT.of_below hb (Nat.le_of_lt hgs), ⟨fun _ => carry HBX.out hb, fun h => absurd h hnov.out⟩⟩
              refine AllFrom.step (m := 5) (j := 6) rfl ?_ ?_
              · intro D f w1 hD hB hR hp hcl hX
                have hbx := hX.1 (eq_false_of_ne_true (no_of (D := D) (hcl 10) (by kernel_rfl) hD))
                have HBX := Lib.hid hbx
                have HEB := Lib.hid hB
                have hgs : g < w1.heap.size := (Array.getElem?_eq_some_iff.1 hbx).1
                have hnov := Lib.hid (no_of (D := D) (hcl 10) (by kernel_rfl) hD)
                clear hX hR hp hbx hB hcl
                refine wpOp_step rfl (fun K hK => ?_)
                simp only [putAll, Act.put, List.setIfInBounds_toArray, List.set_cons_succ, List.set_cons_zero]
                go_simp
                exact hK _ _ ⟨.pointer (some ⟨B, 1, none⟩), (by show _ = Act.put _ (some 49) _; simp only [putAll, Act.put, List.setIfInBounds_toArray, List.set_cons_succ, List.set_cons_zero, *]), rfl, ExtT.refl _ _ _, ⟨fun _ => HBX.out, fun h => absurd h hnov.out⟩⟩
              refine AllFrom.step (m := 4) (j := 7) rfl ?_ ?_
              · intro D f w1 hD hB hR hp hcl hX
                have hbx := hX.1 (eq_false_of_ne_true (no_of (D := D) (hcl 10) (by kernel_rfl) hD))
                have HBX := Lib.hid hbx
                have HEB := Lib.hid hB
                have hgs : g < w1.heap.size := (Array.getElem?_eq_some_iff.1 hbx).1
                have e5 : f 49 = .pointer (some ⟨B, 1, none⟩) := (hp_at hp 5 (by kernel_rfl)).2
                obtain ⟨o0, o1, o3, z0, z1, z2⟩ := at_block HBX.out
                have kb : w1.heap[B]? = some (.cells #[.int .i64 u, .int .i64 p] 51 (0, 0)) := ExtT.other (by decide) HEB.out HKB.out
                have j1 : w1.cell? ⟨B, 1, none⟩ = some (.int .i64 p) := by simp [World.cell?, kb]
                clear kb
                have hnov := Lib.hid (no_of (D := D) (hcl 10) (by kernel_rfl) hD)
                clear hX hR hp hbx hB hcl
                refine wpOp_step rfl (fun K hK => ?_)
                simp only [putAll, Act.put, List.setIfInBounds_toArray, List.set_cons_succ, List.set_cons_zero]
                go_simp
                exact hK _ _ ⟨.int .i64 p, (by show _ = Act.put _ (some 50) _; simp only [putAll, Act.put, List.setIfInBounds_toArray, List.set_cons_succ, List.set_cons_zero, *]), rfl, ExtT.refl _ _ _, ⟨fun _ => HBX.out, fun h => absurd h hnov.out⟩⟩
              refine AllFrom.step (m := 3) (j := 8) rfl ?_ ?_
              · intro D f w1 hD hB hR hp hcl hX
                have hbx := hX.1 (eq_false_of_ne_true (no_of (D := D) (hcl 10) (by kernel_rfl) hD))
                have HBX := Lib.hid hbx
                have HEB := Lib.hid hB
                have hgs : g < w1.heap.size := (Array.getElem?_eq_some_iff.1 hbx).1
                have e6 : f 50 = .int .i64 p := (hp_at hp 6 (by kernel_rfl)).2
                have hnov := Lib.hid (no_of (D := D) (hcl 10) (by kernel_rfl) hD)
                clear hX hR hp hbx hB hcl
                refine wpOp_step rfl (fun K hK => ?_)
                simp only [putAll, Act.put, List.setIfInBounds_toArray, List.set_cons_succ, List.set_cons_zero]
                go_simp
                refine (rFromInt_z p (by have := HPM.out; omega) (by have := HPM.out; omega) _).mono ?_
                rintro e w2 h9
                obtain ⟨v9, rfl, hq9, hb⟩ := h9
                replace hq9 := Lib.hid hq9
                go_simp
                exact hK _ _ ⟨v9, (by show _ = Act.put _ (some 51) _; simp only [putAll, Act.put, List.setIfInBounds_toArray, List.set_cons_succ, List.set_cons_zero, *]), hq9.out, ExtT.of_below hb (Nat.le_of_lt hgs), ⟨fun _ => carry HBX.out hb, fun h => absurd h hnov.out⟩⟩
              refine AllFrom.step (m := 2) (j := 9) rfl ?_ ?_
              · intro D f w1 hD hB hR hp hcl hX
                have hbx := hX.1 (eq_false_of_ne_true (no_of (D := D) (hcl 10) (by kernel_rfl) hD))
                have HBX := Lib.hid hbx
                have HEB := Lib.hid hB
                have hgs : g < w1.heap.size := (Array.getElem?_eq_some_iff.1 hbx).1
                have q4 : IsQ _ _ (f 48) w1 := (hp_at hp 4 (by kernel_rfl)).2
                obtain ⟨v4, e4⟩ : ∃ v, f 48 = v := ⟨_, rfl⟩
                rw [e4] at q4
                replace q4 := Lib.hid q4
                have q7 : IsQ _ _ (f 51) w1 := (hp_at hp 7 (by kernel_rfl)).2
                obtain ⟨v7, e7⟩ : ∃ v, f 51 = v := ⟨_, rfl⟩
                rw [e7] at q7
                replace q7 := Lib.hid q7
                have hnov := Lib.hid (no_of (D := D) (hcl 10) (by kernel_rfl) hD)
                clear hX hR hp hbx hB hcl
                refine wpOp_step rfl (fun K hK => ?_)
                simp only [putAll, Act.put, List.setIfInBounds_toArray, List.set_cons_succ, List.set_cons_zero]
                go_simp
                refine (rMul_z q4.out q7.out HCP.out.1).mono ?_
                rintro e w2 h9
                obtain ⟨v9, rfl, hq9, hb⟩ := h9
                replace hq9 := Lib.hid hq9
                go_simp
                exact hK _ _ ⟨v9, (by show _ = Act.put _ (some 52) _; simp only [putAll, Act.put, List.setIfInBounds_toArray, List.set_cons_succ, List.set_cons_zero, *]), hq9.out, ExtT.of_below hb (Nat.le_of_lt hgs), ⟨fun _ => carry HBX.out hb, fun h => absurd h hnov.out⟩⟩
              refine AllFrom.step (m := 1) (j := 10) rfl ?_ ?_
              · intro D f w1 hD hB hR hp hcl hX
                have hbx := hX.1 (eq_false_of_ne_true (no_of (D := D) (hcl 10) (by kernel_rfl) hD))
                have HBX := Lib.hid hbx
                have HEB := Lib.hid hB
                have hgs : g < w1.heap.size := (Array.getElem?_eq_some_iff.1 hbx).1
                have q0 : IsQ _ _ (f 44) w1 := (hp_at hp 0 (by kernel_rfl)).2
                obtain ⟨v0, e0⟩ : ∃ v, f 44 = v := ⟨_, rfl⟩
                rw [e0] at q0
                replace q0 := Lib.hid q0
                have q8 : IsQ _ _ (f 52) w1 := (hp_at hp 8 (by kernel_rfl)).2
                obtain ⟨v8, e8⟩ : ∃ v, f 52 = v := ⟨_, rfl⟩
                rw [e8] at q8
                replace q8 := Lib.hid q8
                have hnov := Lib.hid (no_of (D := D) (hcl 10) (by kernel_rfl) hD)
                clear hX hR hp hbx hB hcl
                refine wpOp_step rfl (fun K hK => ?_)
                simp only [putAll, Act.put, List.setIfInBounds_toArray, List.set_cons_succ, List.set_cons_zero]
                go_simp
                refine (rAdd_z q0.out q8.out HCP.out.2).mono ?_
                rintro e w2 h9
                obtain ⟨v9, rfl, hq9, hb⟩ := h9
                replace hq9 := Lib.hid hq9
                go_simp
                exact hK _ _ ⟨v9, (by show _ = Act.put _ (some 53) _; simp only [putAll, Act.put, List.setIfInBounds_toArray, List.set_cons_succ, List.set_cons_zero, *]), hq9.out, ExtT.of_below hb (Nat.le_of_lt hgs), ⟨fun _ => carry HBX.out hb, fun h => absurd h hnov.out⟩⟩
              refine AllFrom.step (m := 0) (j := 11) rfl ?_ ?_
              · intro D f w1 hD hB hR hp hcl hX
                have hbx := hX.1 hD
                obtain ⟨s5, a5, n5, c5, o5, m5, d5, ev, hcq⟩ := (hp_at hp 9 (by kernel_rfl)).2
                replace ev : f 53 = _ := ev
                obtain ⟨o0, o1, o2, z0, z1, z2⟩ := at_block hbx
                have HBX : Hid (BoxT 40 w1 g) := ⟨_, _, _, hbx⟩
                clear hX hR hp hbx hcl
                refine wpOp_step rfl (fun K hK => ?_)
                simp only [putAll, Act.put, List.setIfInBounds_toArray, List.set_cons_succ, List.set_cons_zero]
                go_simp
                exact hK _ _ ⟨undef, (by show _ = Act.put _ (none) _; simp only [putAll, Act.put, List.setIfInBounds_toArray, List.set_cons_succ, List.set_cons_zero, *]), trivial, ExtT.set3 HBX.out (Nat.le_refl _) _ _ _, ⟨fun h => absurd (show true = false from h) (by decide), fun _ => by show HoldsT _ _ _ (f 53); rw [ev]; exact HoldsT.new HBX.out _ _ _⟩⟩
              exact AllFrom.nil
            · intro D f w1 hall hB hR hX
              have hbox : BoxN w1 g (((A + cn * p : Int) : Rat)) (5) := BoxN.of (hX.2 (hall 10 (by decide))) (show IsQ _ _ (f 53) w1 from hR 9 (by decide))
              simp only [putAll, Act.put, List.setIfInBounds_toArray, List.set_cons_succ, List.set_cons_zero]
              have kb : w1.heap[B]? = some (.cells #[.int .i64 u, .int .i64 p] 51 (0, 0)) := ExtT.other (by decide) hB HKB.out
              have j0 : w1.cell? ⟨B, 0, none⟩ = some (.int .i64 u) := by simp [World.cell?, kb]
              have BOX2 : Hid (BoxN w1 g ((acc st bs mh (i + 1) : Int) : Rat) 5) := by rw [HNX.out.1]; exact hbox
              have BL2 : Hid (Below g W5 w1) := HBL.out.trans hB.1
              clear hX hR hB hall hbox kb
              go_wp2_with fail
              go_roundw
              case rel => exact ⟨i + 1, by omega, by simp, by rw [HNX.out.2], BOX2.out, BL2.out⟩
              case measure => simp [intOf]; omega
          · have d2 : decide (q < mh) = false := decide_eq_false hgt
            have HZ := Lib.hid (HLE.out hgt)
            clear hgt HGT HLE
            have BOX2 : Hid (BoxN W g ((acc st bs mh (i + 1) : Int) : Rat) 5) := ⟨_, _, _, _, _, _, _, XG.out, by rw [HNX.out.1, HZ.out, Int.zero_mul, Int.add_zero]; exact HQ2.out⟩
            go_wp2_with fail
            go_roundw
            case rel => exact ⟨i + 1, by omega, by simp, by rw [HNX.out.2], BOX2.out, HBL.out⟩
            case measure => simp [intOf]; omega
        · have d1 : (u != 0) = true := bne_iff_ne.2 hu0
          have hm := HMN.out hu0
          clear HMZ HMN hu0
          by_cases hgt : q < mh
          · have d2 : decide (q < mh) = true := decide_eq_true hgt
            have HSUB := Lib.hid (HGT.out hgt)
            clear hgt HGT HLE
            go_wp2_with fail
            refine wp_region_any (by kernel_rfl) ?_
            refine region_ssa [44, 45, 46, 47, 48, 49, 50, 51, 52, 53] (ExtT 40 g W) (ExtT 40 g) (LsP [kQ (((A : Int) : Rat)) (5), kV (.int .i64 mh), kV (.int .i64 q), kV (.int .i64 cn), kQ (((cn : Int) : Rat)) (5), kV (.pointer (some ⟨B, 1, none⟩)), kV (.int .i64 p), kQ (((p : Int) : Rat)) (5), kQ (((cn * p : Int) : Rat)) (5), kQ (((A + cn * p : Int) : Rat)) (5), kAny]) (fun D f w1 => (D 10 = false → w1.heap[g]? = some (.cells #[.bool s, .slice a nn c, .slice o2 m d] 40 (0, 0))) ∧ (D 10 = true → HoldsT 40 w1 (.pointer (some ⟨g, 0, none⟩)) (f 53))) (fun f => rfl) (by kernel_rfl) (by kernel_rfl) ?_ ?_ ?_ ?_ (AllFrom.below (n := 11) ?_) ?_
            · exact ExtT.drewT (ExtT.refl 40 g _)
            · intro f; exact ⟨fun _ => XG.out, fun h => (by cases h)⟩
            · intro jx vx w1 w2 _ h hE; exact LsP.ext (StTL.all (l := [kQ (((A : Int) : Rat)) (5), kV (.int .i64 mh), kV (.int .i64 q), kV (.int .i64 cn), kQ (((cn : Int) : Rat)) (5), kV (.pointer (some ⟨B, 1, none⟩)), kV (.int .i64 p), kQ (((p : Int) : Rat)) (5), kQ (((cn * p : Int) : Rat)) (5), kQ (((A + cn * p : Int) : Rat)) (5), kAny]) ⟨StT.q (by decide) _ _, StT.v _ _, StT.v _ _, StT.v _ _, StT.q (by decide) _ _, StT.v _ _, StT.v _ _, StT.q (by decide) _ _, StT.q (by decide) _ _, StT.q (by decide) _ _, StT.any _, trivial⟩) jx vx w1 w2 h hE
            · intro w1 w2 hB hE; exact ExtT.trans hB hE
            · refine AllFrom.step (m := 10) (j := 1) rfl ?_ ?_
              · intro D f w1 hD hB hR hp hcl hX
                have hbx := hX.1 (eq_false_of_ne_true (no_of (D := D) (hcl 10) (by kernel_rfl) hD))
                have HBX := Lib.hid hbx
                have HEB := Lib.hid hB
                have hgs : g < w1.heap.size := (Array.getElem?_eq_some_iff.1 hbx).1
                obtain ⟨o0, o1, o3, z0, z1, z2⟩ := at_block HBX.out
                have kb : w1.heap[B]? = some (.cells #[.int .i64 u, .int .i64 p] 51 (0, 0)) := ExtT.other (by decide) HEB.out HKB.out
                have j1 : w1.cell? ⟨B, 1, none⟩ = some (.int .i64 p) := by simp [World.cell?, kb]
                clear kb
                have hnov := Lib.hid (no_of (D := D) (hcl 10) (by kernel_rfl) hD)
                clear hX hR hp hbx hB hcl
                refine wpOp_step rfl (fun K hK => ?_)
                simp only [putAll, Act.put, List.setIfInBounds_toArray, List.set_cons_succ, List.set_cons_zero]
                go_simp
                exact hK _ _ ⟨_, (by show _ = Act.put _ (some 44) _; simp only [putAll, Act.put, List.setIfInBounds_toArray, List.set_cons_succ, List.set_cons_zero, *]), ⟨_, _, _, _, _, _, _, rfl, CQ.extT (by decide) HQ2.out HEB.out⟩, ExtT.refl _ _ _, ⟨fun _ => HBX.out, fun h => absurd h hnov.out⟩⟩
              refine AllFrom.step (m := 9) (j := 2) rfl ?_ ?_
              · intro D f w1 hD hB hR hp hcl hX
                have hbx := hX.1 (eq_false_of_ne_true (no_of (D := D) (hcl 10) (by kernel_rfl) hD))
                have HBX := Lib.hid hbx
                have HEB := Lib.hid hB
                have hgs : g < w1.heap.size := (Array.getElem?_eq_some_iff.1 hbx).1
                have hnov := Lib.hid (no_of (D := D) (hcl 10) (by kernel_rfl) hD)
                clear hX hR hp hbx hB hcl
                refine wpOp_step rfl (fun K hK => ?_)
                simp only [putAll, Act.put, List.setIfInBounds_toArray, List.set_cons_succ, List.set_cons_zero]
                go_simp
                exact hK _ _ ⟨.int .i64 mh, (by show _ = Act.put _ (some 45) _; simp only [putAll, Act.put, List.setIfInBounds_toArray, List.set_cons_succ, List.set_cons_zero, *]), rfl, ExtT.refl _ _ _, ⟨fun _ => HBX.out, fun h => absurd h hnov.out⟩⟩
              refine AllFrom.step (m := 8) (j := 3) rfl ?_ ?_
              · intro D f w1 hD hB hR hp hcl hX
                have hbx := hX.1 (eq_false_of_ne_true (no_of (D := D) (hcl 10) (by kernel_rfl) hD))
                have HBX := Lib.hid hbx
                have HEB := Lib.hid hB
                have hgs : g < w1.heap.size := (Array.getElem?_eq_some_iff.1 hbx).1
                have hnov := Lib.hid (no_of (D := D) (hcl 10) (by kernel_rfl) hD)
                clear hX hR hp hbx hB hcl
                refine wpOp_step rfl (fun K hK => ?_)
                simp only [putAll, Act.put, List.setIfInBounds_toArray, List.set_cons_succ, List.set_cons_zero]
                go_simp
                exact hK _ _ ⟨.int .i64 q, (by show _ = Act.put _ (some 46) _; simp only [putAll, Act.put, List.setIfInBounds_toArray, List.set_cons_succ, List.set_cons_zero, *]), rfl, ExtT.refl _ _ _, ⟨fun _ => HBX.out, fun h => absurd h hnov.out⟩⟩
              refine AllFrom.step (m := 7) (j := 4) rfl ?_ ?_
              · intro D f w1 hD hB hR hp hcl hX
                have hbx := hX.1 (eq_false_of_ne_true (no_of (D := D) (hcl 10) (by kernel_rfl) hD))
                have HBX := Lib.hid hbx
                have HEB := Lib.hid hB
                have hgs : g < w1.heap.size := (Array.getElem?_eq_some_iff.1 hbx).1
                have e1 : f 45 = .int .i64 mh := (hp_at hp 1 (by kernel_rfl)).2
                have e2 : f 46 = .int .i64 q := (hp_at hp 2 (by kernel_rfl)).2
                have hmn2 := HSUB.out
                have hqm := HQM.out
                have hmm := HMM.out
                have hcm := HCM.out
                have hwr := wrap_mid hcm.1 (by omega)
                have hnov := Lib.hid (no_of (D := D) (hcl 10) (by kernel_rfl) hD)
                clear hX hR hp hbx hB hcl
                refine wpOp_step rfl (fun K hK => ?_)
                simp only [putAll, Act.put, List.setIfInBounds_toArray, List.set_cons_succ, List.set_cons_zero]
                go_simp
                exact hK _ _ ⟨.int .i64 cn, (by show _ = Act.put _ (some 47) _; simp only [putAll, Act.put, List.setIfInBounds_toArray, List.set_cons_succ, List.set_cons_zero, *]), rfl, ExtT.refl _ _ _, ⟨fun _ => HBX.out, fun h => absurd h hnov.out⟩⟩
              refine AllFrom.step (m := 6) (j := 5) rfl ?_ ?_
              · intro D f w1 hD hB hR hp hcl hX
                have hbx := hX.1 (eq_false_of_ne_true (no_of (D := D) (hcl 10) (by kernel_rfl) hD))
                have HBX := Lib.hid hbx
                have HEB := Lib.hid hB
                have hgs : g < w1.heap.size := (Array.getElem?_eq_some_iff.1 hbx).1
                have e3 : f 47 = .int .i64 cn := (hp_at hp 3 (by kernel_rfl)).2
                have hnov := Lib.hid (no_of (D := D) (hcl 10) (by kernel_rfl) hD)
                clear hX hR hp hbx hB hcl
                refine wpOp_step rfl (fun K hK => ?_)
                simp only [putAll, Act.put, List.setIfInBounds_toArray, List.set_cons_succ, List.set_cons_zero]
                go_simp
                refine (rFromInt_z cn (by have := HCM.out; omega) (by have := HCM.out; omega) _).mono ?_
                rintro e w2 h9
                obtain ⟨v9, rfl, hq9, hb⟩ := h9
                replace hq9 := Lib.hid hq9
                go_simp
                exact hK _ _ ⟨v9, (by show _ = Act.put _ (some 48) _; simp only [putAll, Act.put, List.setIfInBounds_toArray, List.set_cons_succ, List.set_cons_zero, *]), hq9.out, ExtT.of_below hb (Nat.le_of_lt hgs), ⟨fun _ => carry HBX.out hb, fun h => absurd h hnov.out⟩⟩
              refine AllFrom.step (m := 5) (j := 6) rfl ?_ ?_
              · intro D f w1 hD hB hR hp hcl hX
                have hbx := hX.1 (eq_false_of_ne_true (no_of (D := D) (hcl 10) (by kernel_rfl) hD))
                have HBX := Lib.hid hbx
                have HEB := Lib.hid hB
                have hgs : g < w1.heap.size := (Array.getElem?_eq_some_iff.1 hbx).1
                have hnov := Lib.hid (no_of (D := D) (hcl 10) (by kernel_rfl) hD)
                clear hX hR hp hbx hB hcl
                refine wpOp_step rfl (fun K hK => ?_)
                simp only [putAll, Act.put, List.setIfInBounds_toArray, List.set_cons_succ, List.set_cons_zero]
                go_simp
                exact hK _ _ ⟨.pointer (some ⟨B, 1, none⟩), (by show _ = Act.put _ (some 49) _; simp only [putAll, Act.put, List.setIfInBounds_toArray, List.set_cons_succ, List.set_cons_zero, *]), rfl, ExtT.refl _ _ _, ⟨fun _ => HBX.out, fun h => absurd h hnov.out⟩⟩
              refine AllFrom.step (m := 4) (j := 7) rfl ?_ ?_
              · intro D f w1 hD hB hR hp hcl hX
                have hbx := hX.1 (eq_false_of_ne_true (no_of (D := D) (hcl 10) (by kernel_rfl) hD))
                have HBX := Lib.hid hbx
                have HEB := Lib.hid hB
                have hgs : g < w1.heap.size := (Array.getElem?_eq_some_iff.1 hbx).1
                have e5 : f 49 = .pointer (some ⟨B, 1, none⟩) := (hp_at hp 5 (by kernel_rfl)).2
                obtain ⟨o0, o1, o3, z0, z1, z2⟩ := at_block HBX.out
                have kb : w1.heap[B]? = some (.cells #[.int .i64 u, .int .i64 p] 51 (0, 0)) := ExtT.other (by decide) HEB.out HKB.out
                have j1 : w1.cell? ⟨B, 1, none⟩ = some (.int .i64 p) := by simp [World.cell?, kb]
                clear kb
                have hnov := Lib.hid (no_of (D := D) (hcl 10) (by kernel_rfl) hD)
                clear hX hR hp hbx hB hcl
                refine wpOp_step rfl (fun K hK => ?_)
                simp only [putAll, Act.put, List.setIfInBounds_toArray, List.set_cons_succ, List.set_cons_zero]
                go_simp
                exact hK _ _ ⟨.int .i64 p, (by show _ = Act.put _ (some 50) _; simp only [putAll, Act.put, List.setIfInBounds_toArray, List.set_cons_succ, List.set_cons_zero, *]), rfl, ExtT.refl _ _ _, ⟨fun _ => HBX.out, fun h => absurd h hnov.out⟩⟩
              refine AllFrom.step (m := 3) (j := 8) rfl ?_ ?_
              · intro D f w1 hD hB hR hp hcl hX
                have hbx := hX.1 (eq_false_of_ne_true (no_of (D := D) (hcl 10) (by kernel_rfl) hD))
                have HBX := Lib.hid hbx
                have HEB := Lib.hid hB
                have hgs : g < w1.heap.size := (Array.getElem?_eq_some_iff.1 hbx).1
                have e6 : f 50 = .int .i64 p := (hp_at hp 6 (by kernel_rfl)).2
                have hnov := Lib.hid (no_of (D := D) (hcl 10) (by kernel_rfl) hD)
                clear hX hR hp hbx hB hcl
                refine wpOp_step rfl (fun K hK => ?_)
                simp only [putAll, Act.put, List.setIfInBounds_toArray, List.set_cons_succ, List.set_cons_zero]
                go_simp
                refine (rFromInt_z p (by have := HPM.out; omega) (by have := HPM.out; omega) _).mono ?_
                rintro e w2 h9
                obtain ⟨v9, rfl, hq9, hb⟩ := h9
                replace hq9 := Lib.hid hq9
                go_simp
                exact hK _ _ ⟨v9, (by show _ = Act.put _ (some 51) _; simp only [putAll, Act.put, List.setIfInBounds_toArray, List.set_cons_succ, List.set_cons_zero, *]), hq9.out, ExtT.of_below hb (Nat.le_of_lt hgs), ⟨fun _ => carry HBX.out hb, fun h => absurd h hnov.out⟩⟩
              refine AllFrom.step (m := 2) (j := 9) rfl ?_ ?_
              · intro D f w1 hD hB hR hp hcl hX
                have hbx := hX.1 (eq_false_of_ne_true (no_of (D := D) (hcl 10) (by kernel_rfl) hD))
                have HBX := Lib.hid hbx
                have HEB := Lib.hid hB
                have hgs : g < w1.heap.size := (Array.getElem?_eq_some_iff.1 hbx).1
                have q4 : IsQ _ _ (f 48) w1 := (hp_at hp 4 (by kernel_rfl)).2
                obtain ⟨v4, e4⟩ : ∃ v, f 48 = v := ⟨_, rfl⟩
                rw [e4] at q4
                replace q4 := Lib.hid q4
                have q7 : IsQ _ _ (f 51) w1 := (hp_at hp 7 (by kernel_rfl)).2
                obtain ⟨v7, e7⟩ : ∃ v, f 51 = v := ⟨_, rfl⟩
                rw [e7] at q7
                replace q7 := Lib.hid q7
                have hnov := Lib.hid (no_of (D := D) (hcl 10) (by kernel_rfl) hD)
                clear hX hR hp hbx hB hcl
                refine wpOp_step rfl (fun K hK => ?_)
                simp only [putAll, Act.put, List.setIfInBounds_toArray, List.set_cons_succ, List.set_cons_zero]
                go_simp
                refine (rMul_z q4.out q7.out HCP.out.1).mono ?_
                rintro e w2 h9
                obtain ⟨v9, rfl, hq9, hb⟩ := h9
                replace hq9 := Lib.hid hq9
                go_simp
                exact hK _ _ ⟨v9, (by show _ = Act.put _ (some 52) _; simp only [putAll, Act.put, List.setIfInBounds_toArray, List.set_cons_succ, List.set_cons_zero, *]), hq9.out, ExtT.of_below hb (Nat.le_of_lt hgs), ⟨fun _ => carry HBX.out hb, fun h => absurd h hnov.out⟩⟩
              refine AllFrom.step (m := 1) (j := 10) rfl ?_ ?_
              · intro D f w1 hD hB hR hp hcl hX
                have hbx := hX.1 (eq_false_of_ne_true (no_of (D := D) (hcl 10) (by kernel_rfl) hD))
                have HBX := Lib.hid hbx
                have HEB := Lib.hid hB
                have hgs : g < w1.heap.size := (Array.getElem?_eq_some_iff.1 hbx).1
                have q0 : IsQ _ _ (f 44) w1 := (hp_at hp 0 (by kernel_rfl)).2
                obtain ⟨v0, e0⟩ : ∃ v, f 44 = v := ⟨_, rfl⟩
                rw [e0] at q0
                replace q0 := Lib.hid q0
                have q8 : IsQ _ _ (f 52) w1 := (hp_at hp 8 (by kernel_rfl)).2
                obtain ⟨v8, e8⟩ : ∃ v, f 52 = v := ⟨_, rfl⟩
                rw [e8] at q8
                replace q8 := Lib.hid q8
                have hnov := Lib.hid (no_of (D := D) (hcl 10) (by kernel_rfl) hD)
                clear hX hR hp hbx hB hcl
                refine wpOp_step rfl (fun K hK => ?_)
                simp only [putAll, Act.put, List.setIfInBounds_toArray, List.set_cons_succ, List.set_cons_zero]
                go_simp
                refine (rAdd_z q0.out q8.out HCP.out.2).mono ?_
                rintro e w2 h9
                obtain ⟨v9, rfl, hq9, hb⟩ := h9
                replace hq9 := Lib.hid hq9
                go_simp
                exact hK _ _ ⟨v9, (by show _ = Act.put _ (some 53) _; simp only [putAll, Act.put, List.setIfInBounds_toArray, List.set_cons_succ, List.set_cons_zero, *]), hq9.out, ExtT.of_below hb (Nat.le_of_lt hgs), ⟨fun _ => carry HBX.out hb, fun h => absurd h hnov.out⟩⟩
              refine AllFrom.step (m := 0) (j := 11) rfl ?_ ?_
              · intro D f w1 hD hB hR hp hcl hX
                have hbx := hX.1 hD
                obtain ⟨s5, a5, n5, c5, o5, m5, d5, ev, hcq⟩ := (hp_at hp 9 (by kernel_rfl)).2
                replace ev : f 53 = _ := ev
                obtain ⟨o0, o1, o2, z0, z1, z2⟩ := at_block hbx
                have HBX : Hid (BoxT 40 w1 g) := ⟨_, _, _, hbx⟩
                clear hX hR hp hbx hcl
                refine wpOp_step rfl (fun K hK => ?_)
                simp only [putAll, Act.put, List.setIfInBounds_toArray, List.set_cons_succ, List.set_cons_zero]
                go_simp
                exact hK _ _ ⟨undef, (by show _ = Act.put _ (none) _; simp only [putAll, Act.put, List.setIfInBounds_toArray, List.set_cons_succ, List.set_cons_zero, *]), trivial, ExtT.set3 HBX.out (Nat.le_refl _) _ _ _, ⟨fun h => absurd (show true = false from h) (by decide), fun _ => by show HoldsT _ _ _ (f 53); rw [ev]; exact HoldsT.new HBX.out _ _ _⟩⟩
              exact AllFrom.nil
            · intro D f w1 hall hB hR hX
              have hbox : BoxN w1 g (((A + cn * p : Int) : Rat)) (5) := BoxN.of (hX.2 (hall 10 (by decide))) (show IsQ _ _ (f 53) w1 from hR 9 (by decide))
              simp only [putAll, Act.put, List.setIfInBounds_toArray, List.set_cons_succ, List.set_cons_zero]
              have kb : w1.heap[B]? = some (.cells #[.int .i64 u, .int .i64 p] 51 (0, 0)) := ExtT.other (by decide) hB HKB.out
              have j0 : w1.cell? ⟨B, 0, none⟩ = some (.int .i64 u) := by simp [World.cell?, kb]
              have BOX2 : Hid (BoxN w1 g ((acc st bs am (i + 1) : Int) : Rat) 5) := by rw [HNX.out.1]; exact hbox
              have BL2 : Hid (Below g W5 w1) := HBL.out.trans hB.1
              clear hX hR hB hall hbox kb
              go_wp2_with fail
              go_roundw
              case rel => exact ⟨i + 1, by omega, by simp, by rw [HNX.out.2], BOX2.out, BL2.out⟩
              case measure => simp [intOf]; omega
          · have d2 : decide (q < mh) = false := decide_eq_false hgt
            have HZ := Lib.hid (HLE.out hgt)
            clear hgt HGT HLE
            have BOX2 : Hid (BoxN W g ((acc st bs am (i + 1) : Int) : Rat) 5) := ⟨_, _, _, _, _, _, _, XG.out, by rw [HNX.out.1, HZ.out, Int.zero_mul, Int.add_zero]; exact HQ2.out⟩
            go_wp2_with fail
            go_roundw
            case rel => exact ⟨i + 1, by omega, by simp, by rw [HNX.out.2], BOX2.out, HBL.out⟩
            case measure => simp [intOf]; omega
      · obtain rfl : i = n := by omega
        have hval : acc st bs am i = bil st bs am := by unfold bil; rw [← HN.out]
        rw [hval, ← HQ.out] at hbx
        obtain ⟨s, a, nn, c, o2, m, d, hbx1, hbq⟩ := hbx.out
        have r3 := (hbl.out.block (w.heap.size + 1) HG.out).trans R5.out
        have r4 := set3_at r3 (.bool s) (.slice a nn c) (.slice o2 m d)
        have HWr : Below w.heap.size w wr := HW5.out.trans (hbl.out.mono (by have := HG.out; omega))
        have FIN : Hid (MkE 0 ((bilQ st bs am : Int) : Rat) 5 w (.returned (.tuple #[.agg #[.bool s, .slice a nn c, .slice o2 m d], .int .i64 0])) (((wr.setCell ⟨w.heap.size + 1, 0, none⟩ (.bool s)).setCell ⟨w.heap.size + 1, 1, none⟩ (.slice a nn c)).setCell ⟨w.heap.size + 1, 2, none⟩ (.slice o2 m d))) :=
          ⟨_, rfl, ⟨_, _, _, _, _, _, _, rfl, CQ.extT (by decide) hbq (ExtT.set3 (n := 0) ⟨_, _, _, r3⟩ (Nat.zero_le _) _ _ _)⟩, below3 HWr (by omega) _ _ _⟩
        obtain ⟨p0, p1, p2, z0, z1, z2⟩ := at_block r3
        obtain ⟨q0, q1, q2, y0, y1, y2⟩ := at_block hbx1
        have R4 := Lib.hid r4
        clear r3 r4 hbx1 hbq HWr hval hbx
        go_wp2_with fail
        obtain ⟨o0, o1, o3, -, -, -⟩ := at_block R4.out
        refine bodyPost_ret (v := .tuple #[.agg #[.bool s, .slice a nn c, .slice o2 m d], .int .i64 0]) (by simp [results, Try.results28, go_sem, o0, o1, o3]) rfl ?_
        exact FIN.out
  · have d0 : (er != 0) = true := bne_iff_ne.2 h0
    have hz := Lib.hid (HQ0.out h0)
    clear h0
    go_enter Try.func28, Try.ntmps28
    go_wp2_with fail
    rw [← HU.out]
    refine (HC.out _ HB2.out).mono ?_; rintro e w2 ⟨rfl, hB2⟩
    have K2 := REST.out w2 hB2
    clear hB2 u0 u1
    obtain ⟨p0, p1, p2, z0, z1, z2⟩ := at_block K2.out.1
    have r4 := set3_at K2.out.1 (.bool false) (.slice none 0 0) (.slice none 0 0)
    have R4 := Lib.hid r4
    clear r4
    go_wp2_with fail
    obtain ⟨o0, o1, o2, -, -, -⟩ := at_block R4.out
    refine bodyPost_ret (v := .tuple #[.agg #[.bool false, .slice none 0 0, .slice none 0 0], .int .i64 er]) (by simp [results, Try.results28, go_sem, o0, o1, o2]) rfl ?_
    exact ⟨_, rfl, by rw [hz.out]; exact isq_zero _ 5 (by omega) (by omega), below3 K2.out.2.2 (by omega) _ _ _⟩
end Go.Proofs.Ytdcnkebcpaelpaa.T14
/- Layer 14: the law's awake. -/
namespace Go.Proofs.Ytdcnkebcpaelpaa.T14
open Go.RowKit Go.Sort C6

theorem same_z {u v : Value} {p q : Rat} {j k : Nat} {w : World} (hu : IsQ p j u w) (hv : IsQ q k v w) (hpq : p = q) : Calls Try.prog 14 #[u, v] w fun e w' => e = .returned (.bool true) ∧ Below w.heap.size w w' := by
  obtain ⟨s, ao, n, ca, bo, m, cb, rfl, h1⟩ := hu
  obtain ⟨t, po, l, cl, qo, j, cj, rfl, h2⟩ := hv
  exact Same_q h1 h2 hpq
theorem awake_val : aE 500 [(100, 20), (0, 30)] 150 = 0 ∧ bilQ 500 [(100, 20), (0, 30)] 150 = 4000 := by
  have hok : OkB [((100 : Int), (20 : Int)), (0, 30)] := by
    refine ⟨by decide, by decide, ?_, ?_, ?_⟩
    · intro i hi
      match i, hi with
      | 0, _ => decide
      | 1, _ => decide
    · intro i hi
      match i, hi with
      | 0, _ => decide
    · intro i hi
      match i, hi with
      | 1, _ => decide
  have h1 : aE 500 [(100, 20), (0, 30)] 150 = 0 := aE_zero (tE_zero (by decide) (by decide) hok) (by decide) (by decide)
  exact ⟨h1, by unfold bilQ; rw [if_pos h1]; decide⟩
theorem und {n : Nat} {a b : World} (h : Below n a.drew b) : Below n a b := ⟨h.os, h.tape, h.output, h.size, h.block⟩
set_option maxHeartbeats 8000000 in
set_option maxRecDepth 100000 in
theorem awake_v (w : World) : Calls Try.prog 15 #[] w fun e w' => e = .returned (.bool true) ∧ Below w.heap.size w w' := by
  obtain ⟨W1, hW1⟩ : ∃ W, W = w.alloc (.cells #[.int .i64 100, .int .i64 20, .int .i64 0, .int .i64 30] 51) := ⟨_, rfl⟩
  obtain ⟨W2, hW2⟩ : ∃ W, W = W1.alloc (.cells #[.int .i64 500, .slice (some ⟨w.heap.size, 0, none⟩) 2 2] 24) := ⟨_, rfl⟩
  have b1 : Below w.heap.size w W1 := by rw [hW1]; exact below_new w _
  have b2 : Below W1.heap.size W1 W2 := by rw [hW2]; exact below_new W1 _
  have h1 : W1.heap[w.heap.size]? = some (.cells #[.int .i64 100, .int .i64 20, .int .i64 0, .int .i64 30] 51 (0, 0)) := by rw [hW1]; exact heap_alloc_new _ _
  have h2 := carry h1 b2
  have HR : RdK W2 (some ⟨w.heap.size, 0, none⟩) 2 [((100 : Int), (20 : Int)), (0, 30)] := by
    refine ⟨by decide, by decide, .inr ⟨w.heap.size, 0, rfl, fun i hi => ?_⟩⟩
    match i, hi with
    | 0, _ => exact ⟨by simp [World.cell?, h2, List.getD], by simp [World.cell?, h2, List.getD]⟩
    | 1, _ => exact ⟨by simp [World.cell?, h2, List.getD], by simp [World.cell?, h2, List.getD]⟩
  have HB2 : Hid (Below w.heap.size w W2) := b1.trans (b2.mono b1.size)
  have HC : Hid (Calls Try.prog 21 #[.agg #[.int .i64 500, .slice (some ⟨w.heap.size, 0, none⟩) 2 2], .int .i64 150] W2 (MkE 0 ((4000 : Int) : Rat) 5 W2)) := by
    have h := Bill_v 500 (some ⟨w.heap.size, 0, none⟩) 2 [((100 : Int), (20 : Int)), (0, 30)] 150 W2 HR (by decide)
    rw [awake_val.1, awake_val.2] at h
    exact h
  have HU : Hid (W2 = (w.alloc (.cells #[.int .i64 100, .int .i64 20, .int .i64 0, .int .i64 30] 51)).alloc (.cells #[.int .i64 500, .slice (some ⟨w.heap.size, 0, none⟩) 2 2] 24)) := by unfold Hid; rw [hW2, hW1]
  clear hW1 hW2 b1 b2 h1 h2 HR
  go_enter Try.func15, Try.ntmps15
  go_wp2_with fail
  rw [← HU.out]
  refine (HC.out).mono ?_; rintro e W3 ⟨v3, rfl, ⟨s3, a3, n3, c3, o3, m3, d3, rfl, q3⟩, b3⟩
  have HB3 : Hid (Below w.heap.size w W3) := HB2.out.trans (b3.mono HB2.out.size)
  obtain ⟨W4, hW4⟩ : ∃ W, W = W3.alloc (.cells #[.bool s3, .slice a3 n3 c3, .slice o3 m3 d3] 40) := ⟨_, rfl⟩
  have b4 : Below W3.heap.size W3 W4 := by rw [hW4]; exact below_new W3 _
  have h4 : W4.heap[W3.heap.size]? = some (.cells #[.bool s3, .slice a3 n3 c3, .slice o3 m3 d3] 40 (0, 0)) := by rw [hW4]; exact heap_alloc_new _ _
  obtain ⟨g, hg⟩ : ∃ g, g = W3.heap.size := ⟨_, rfl⟩
  rw [← hg] at h4
  have H4 := Lib.hid h4
  have HB4 : Hid (Below w.heap.size w W4) := HB3.out.trans (b4.mono HB3.out.size)
  have Q4 : Hid (IsQ ((4000 : Int) : Rat) 5 (.agg #[.bool s3, .slice a3 n3 c3, .slice o3 m3 d3]) W4) := ⟨_, _, _, _, _, _, _, rfl, q3.below b4⟩
  have HV := Lib.hid hW4
  have HGG := Lib.hid hg
  have HLT : Hid (g < W4.heap.size) := (Array.getElem?_eq_some_iff.1 h4).1
  have cells : Hid (∀ w', Below W4.heap.size W4 w' → w'.cell? ⟨g, 0, none⟩ = some (.bool s3) ∧ w'.cell? ⟨g, 1, none⟩ = some (.slice a3 n3 c3) ∧ w'.cell? ⟨g, 2, none⟩ = some (.slice o3 m3 d3)) := fun w' hb => by
    obtain ⟨u0, u1, u2, _⟩ := at_block (carry H4.out hb)
    exact ⟨u0, u1, u2⟩
  clear b3 b4 h4 hW4 q3 hg
  obtain ⟨k0, k1, k2⟩ := cells.out W4 (Below.refl _ _)
  go_upto_region 3 with fail
  rw [← HV.out]
  try rw [← HGG.out]
  clear HV HGG
  go_region_law (go_simp; (first
    | (go_at_call 19; refine (rFromInt_z 4000 (by omega) (by omega) _).mono ?_; rintro e w5 ⟨v5, rfl, hq5, hb5⟩; have HQ5 := Lib.hid hq5; have HB5 : Hid (Below W4.heap.size W4 w5) := und hb5; obtain ⟨j0, j1, j2⟩ := cells.out w5 (und hb5); clear hq5 hb5)
    | (go_at_call 14; refine (same_z (ZV.below Q4.out HB5.out) HQ5.out rfl).mono ?_; rintro e w6 ⟨rfl, hb6⟩; have HB6 : Hid (Below w.heap.size w w6) := HB4.out.trans ((HB5.out.trans (hb6.mono HB5.out.size)).mono HB4.out.size); clear hb6)))
  all_goals
    go_wp2_with fail
    go_ret
    exact ⟨rfl, HB6.out⟩
end Go.Proofs.Ytdcnkebcpaelpaa.T14
/- Layer 14: how the laws begin: a raw tariff in its box, a tape, a made tariff in its box. -/
namespace Go.Proofs.Ytdcnkebcpaelpaa.T14
open Go.RowKit Go.Sort C6

/-- a tariff in a box, with blocks that can be read -/
structure TB (w : World) (g : Nat) (st : Int) (a : Option Addr) (n c : Nat) (bs : List (Int × Int)) : Prop where
  box : TfBox w g st a n c
  rd : RdK w a c bs
  len : bs.length = n
  max : n ≤ 10
theorem TB.below {w w' : World} {g : Nat} {st : Int} {a : Option Addr} {n c : Nat} {bs : List (Int × Int)} (h : TB w g st a n c bs) (k : Below w.heap.size w w') : TB w' g st a n c bs := ⟨h.box.below k h.box.lt, h.rd.below k, h.len, h.max⟩
theorem TB.grown {w w' : World} {g : Nat} {st : Int} {a : Option Addr} {n c : Nat} {bs : List (Int × Int)} (h : TB w g st a n c bs) {row : Option Nat} (k : w.grownBy w' row) (hg : some g ≠ row) (hr : offB a bs (fun b => some b ≠ row)) : TB w' g st a n c bs := ⟨h.box.grown k hg, h.rd.grown hr k, h.len, h.max⟩
theorem rd_of_own {w : World} {base n c : Nat} {a : Option Addr} {l : List (Int × Int)} {t : TypeId} (h : w.ownsRow base t 2 (.slice a n c) n (bkv l)) : RdK w a c l ∧ l.length = n ∧ offB a l (fun b => base ≤ b) := by
  obtain ⟨a', c', e', r', o', _⟩ := RdK.of_row h
  injection e' with e1 e2 e3
  rw [e1, e3]
  refine ⟨r', e2.symm, ?_⟩
  intro h0 b o e
  exact o' h0 b o e
theorem TB.valid {w : World} {g : Nat} {st : Int} {a : Option Addr} {n c : Nat} {bs : List (Int × Int)} (h : TB w g st a n c bs) : Calls Try.prog 23 #[.agg #[.int .i64 st, .slice a n c]] w (ErrIs (tE st bs) w) := by
  have := Validate_v st a c bs w h.rd (by have := h.max; have := h.len; omega)
  rwa [h.len] at this
theorem TB.rvalid {w : World} {g : Nat} {st : Int} {a : Option Addr} {n c : Nat} {bs : List (Int × Int)} (h : TB w g st a n c bs) : Calls Try.prog 26 #[.agg #[.int .i64 st, .slice a n c]] w (ErrIs (tE st bs) w) := by
  have := rValidate_v st a c bs w h.rd (by have := h.max; have := h.len; omega)
  rwa [h.len] at this
theorem TB.bill {w : World} {g : Nat} {st : Int} {a : Option Addr} {n c : Nat} {bs : List (Int × Int)} (h : TB w g st a n c bs) (am : Int) : Calls Try.prog 21 #[.agg #[.int .i64 st, .slice a n c], .int .i64 am] w (MkE (aE st bs am) ((bilQ st bs am : Int) : Rat) 5 w) := by
  have := Bill_v st a c bs am w h.rd (by have := h.max; have := h.len; omega)
  rwa [h.len] at this
theorem TB.rbill {w : World} {g : Nat} {st : Int} {a : Option Addr} {n c : Nat} {bs : List (Int × Int)} (h : TB w g st a n c bs) (am : Int) : Calls Try.prog 28 #[.agg #[.int .i64 st, .slice a n c], .int .i64 am] w (MkE (aE st bs am) ((bilQ st bs am : Int) : Rat) 5 w) := by
  have := rBill_v st a c bs am w h.rd (by have := h.max; have := h.len; omega)
  rwa [h.len] at this
theorem TB.rmarginal {w : World} {g : Nat} {st : Int} {a : Option Addr} {n c : Nat} {bs : List (Int × Int)} (h : TB w g st a n c bs) (am : Int) : Calls Try.prog 47 #[.agg #[.int .i64 st, .slice a n c], .int .i64 am] w (ZE (aE st bs am) (mrgQ st bs am) w) := by
  have := rMarginal_v st a c bs am w h.rd (by have := h.max; have := h.len; omega)
  rwa [h.len] at this
theorem rdz_lt {w : World} {ao : Option Addr} {cap : Nat} {ts : List Int} (h : RdZ w ao cap ts) : 0 < ts.length → ∀ b o, ao = some ⟨b, o, none⟩ → b < w.heap.size := by
  intro h0 b o e
  obtain ⟨b', o', e', hc⟩ := h.atZ h0
  rw [e] at e'
  cases e'
  exact World.block_lt_of_cell? _ _ hc
/-- a number's cells of a tariff's box turned -/
theorem TfBox.put2 {w : World} {g : Nat} {st : Int} {a : Option Addr} {n c : Nat} (h : TfBox w g st a n c) (st' : Int) (a' : Option Addr) (n' c' : Nat) : TfBox ((w.setCell ⟨g, 0, none⟩ (.int .i64 st')).setCell ⟨g, 1, none⟩ (.slice a' n' c')) g st' a' n' c' := by
  unfold TfBox at h ⊢
  simp [World.setCell, Array.getElem?_modify, h]
end Go.Proofs.Ytdcnkebcpaelpaa.T14
