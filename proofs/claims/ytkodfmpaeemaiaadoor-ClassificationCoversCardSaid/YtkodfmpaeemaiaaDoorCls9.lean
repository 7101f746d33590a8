import Derived.Test.YtkodfmpaeemaiaaDoorCls8
/- Package classification: Common, Compare; the sanity check of its laws. -/
namespace Go.Proofs.YtkodfmpaeemaiaaDoor.C6
open Go.RowKit Go.Sort

set_option maxHeartbeats 4000000 in
theorem Compare_v (s a : ByteArray) (w : World) (hev : ErrV w) : Calls Tryd.prog 29 #[.string s, .string a] w fun e w' => e = .returned (.int .i64 (cmpS s a)) ∧ Below w.heap.size w w' := by
  go_enter Tryd.func29, Tryd.ntmps29
  go_wp2_with fail
  refine (partsOf_v s _ hev).mono ?_; rintro e w1 ⟨p, ao, ca, b, rfl, hr1, _, hb1, h1⟩
  have HB1 := Lib.hid hb1
  have HR1 := Lib.hid hr1
  have H1 := Lib.hid h1
  obtain ⟨l, hl⟩ : ∃ l, l = p.length := ⟨_, rfl⟩
  rw [← hl]
  have HL := Lib.hid hl
  clear hb1 hr1 h1 hl
  go_wp2_with fail
  refine (partsOf_v a _ (hev.below HB1.out)).mono ?_; rintro e w2 ⟨q, bo, cb, b', rfl, hr2, _, hb2, h2⟩
  have HB2 := Lib.hid (keep HB1.out hb2)
  have HR2 := Lib.hid hr2
  have HR3 := Lib.hid (HR1.out.below hb2)
  have H2 := Lib.hid h2
  obtain ⟨m, hm⟩ : ∃ m, m = q.length := ⟨_, rfl⟩
  rw [← hm]
  have HM := Lib.hid hm
  clear hb2 hr2 h2 hm
  have hq : b' = true → PO a = some q := fun e => by rcases H2.out with h | h; exact h.2; rw [e] at h; cases h.1
  have hp : b = true → PO s = some p := fun e => by rcases H1.out with h | h; exact h.2; rw [e] at h; cases h.1
  have hq' : b' = false → PO a = none := fun e => by rcases H2.out with h | h; (rw [e] at h; cases h.1); exact h.2.1
  have hp' : b = false → PO s = none := fun e => by rcases H1.out with h | h; (rw [e] at h; cases h.1); exact h.2.1
  cases b
  · have hp0 := hp' rfl
    cases b'
    · have hq0 := hq' rfl
      have HX : Hid (Lib.compareBytes s.data.toList a.data.toList = cmpS s a) := by unfold Hid cmpS; rw [hp0, hq0]
      have HC := Lib.hid (fun w => Tryd.strings_Compare s a w)
      clear hp hq hp' hq' hp0 hq0
      go_wp2_with fail
      refine (HC.out _).mono ?_; rintro e w3 ⟨rfl, rfl⟩
      go_wp2_with fail
      go_ret
      exact ⟨ret_i64 HX.out, HB2.out⟩
    · have hq0 := hq rfl
      have HX : Hid ((1 : Int) = cmpS s a) := by unfold Hid cmpS; rw [hp0, hq0]
      clear hp hq hp' hq' hp0 hq0
      go_wp2_with fail
      go_ret
      exact ⟨ret_i64 HX.out, HB2.out⟩
  · have hp0 := hp rfl
    cases b'
    · have hq0 := hq' rfl
      have HX : Hid ((-1 : Int) = cmpS s a) := by unfold Hid cmpS; rw [hp0, hq0]
      clear hp hq hp' hq' hp0 hq0
      go_wp2_with fail
      go_ret
      exact ⟨ret_i64 HX.out, HB2.out⟩
    · have hq0 := hq rfl
      have HX : Hid (cmpL p q = cmpS s a) := by unfold Hid cmpS; rw [hp0, hq0]
      have HC := Lib.hid (compareParts_v ao bo ca cb p q w2 HR3.out HR2.out (PO_some hp0).2.1)
      obtain ⟨L, hL⟩ : ∃ L, L = (lcp p q).length := ⟨_, rfl⟩
      unfold Hid at HC HX
      obtain ⟨C, hC⟩ : ∃ C, C = cmpL p q := ⟨_, rfl⟩
      rw [← HL.out, ← HM.out, ← hL, ← hC] at HC
      rw [← hC] at HX
      have HC2 := Lib.hid HC
      have HX2 := Lib.hid HX
      clear HC HX hL hC hp hq hp' hq' hp0 hq0
      go_wp2_with fail
      refine HC2.out.mono ?_; rintro e w3 ⟨rfl, hb3⟩
      have HB3 := Lib.hid (keep HB2.out hb3)
      clear hb3
      go_wp2_with fail
      go_ret
      exact ⟨ret_i64 HX2.out, HB3.out⟩

theorem txt1 (s : ByteArray) (p : List Nat) (h : Pts p) (e : s.data.toList = cod p) : P s = some p := by
  have : s = txt p := ba_ext (by rw [e, txt_list])
  rw [this]
  exact P_txt h
theorem ns_dec (p : List Nat) (h : p.all (fun n => decide (1 ≤ n ∧ n ≤ 99)) = true) : Ns p := fun n hn => by
  have := List.all_eq_true.1 h n hn
  simpa using this
set_option maxHeartbeats 4000000 in
theorem awake_v (w : World) (hev : ErrV w) : Calls Tryd.prog 11 #[] w fun e w' => e = .returned (.bool true) ∧ Below w.heap.size w w' := by
  have p1 : P ⟨#[48, 49, 46, 49, 48]⟩ = some [1, 10] := txt1 _ _ ⟨by decide, by decide, ns_dec _ (by decide)⟩ (by decide)
  have p2 : P ⟨#[48, 49, 46, 49, 46, 49, 50]⟩ = some [1, 1, 12] := txt1 _ _ ⟨by decide, by decide, ns_dec _ (by decide)⟩ (by decide)
  have p3 : P ⟨#[48, 49, 46, 50]⟩ = some [1, 2] := txt1 _ _ ⟨by decide, by decide, ns_dec _ (by decide)⟩ (by decide)
  have e1 : par ⟨#[48, 49, 46, 49, 48]⟩ = (⟨#[48, 49]⟩, true) := by unfold par; rw [p1]; rfl
  have e2 : lev ⟨#[48, 49, 46, 49, 46, 49, 50]⟩ = 3 := by unfold lev; rw [PO_of_P p2]; rfl
  have e3 : cmpS ⟨#[48, 49, 46, 50]⟩ ⟨#[48, 49, 46, 49, 48]⟩ = -1 := by unfold cmpS; rw [PO_of_P p3, PO_of_P p1]; rfl
  have h1 := fun w h => Parent_v ⟨#[48, 49, 46, 49, 48]⟩ w h
  have h2 := fun w h => Level_v ⟨#[48, 49, 46, 49, 46, 49, 50]⟩ w h
  have h3 := fun w h => Compare_v ⟨#[48, 49, 46, 50]⟩ ⟨#[48, 49, 46, 49, 48]⟩ w h
  rw [e1] at h1
  rw [e2] at h2
  rw [e3] at h3
  have H1 := Lib.hid h1
  have H2 := Lib.hid h2
  have H3 := Lib.hid h3
  clear h1 h2 h3 e1 e2 e3 p1 p2 p3
  go_enter Tryd.func11, Tryd.ntmps11
  go_wp2_with fail
  refine (H1.out _ hev).mono ?_; rintro e w1 ⟨rfl, b1⟩
  have HB1 := Lib.hid b1
  clear b1
  go_wp2_with fail
  refine (H2.out _ (hev.below HB1.out)).mono ?_; rintro e w2 ⟨rfl, b2⟩
  have HB2 := Lib.hid (keep HB1.out b2)
  clear b2
  go_wp2_with fail
  refine (H3.out _ (hev.below HB2.out)).mono ?_; rintro e w3 ⟨rfl, b3⟩
  have HB3 := Lib.hid (keep HB2.out b3)
  clear b3
  go_wp2_with fail
  go_ret
  exact ⟨rfl, HB3.out⟩
end Go.Proofs.YtkodfmpaeemaiaaDoor.C6
