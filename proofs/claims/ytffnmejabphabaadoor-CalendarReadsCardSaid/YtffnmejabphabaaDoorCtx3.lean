import Derived.Test.YtffnmejabphabaaDoorCtx2
/- Package calendar: numbers read off a piece of a text. -/
namespace Go.Proofs.YtffnmejabphabaaDoor
open Go.RowKit Go.Sort

/-- the variable strconv.ErrSyntax holds an error or none -/
def ErrV (w : World) : Prop := ∃ ev, w.cell? ⟨1, 0, none⟩ = some ev ∧ (ev = .nilIface ∨ ∃ te pe, ev = .iface te pe)
theorem ErrV.below {w w' : World} (h : ErrV w) (b : Below w.heap.size w w') : ErrV w' := by
  obtain ⟨ev, h1, h2⟩ := h
  exact ⟨ev, cellB h1 b, h2⟩
def LoosePost (t : ByteArray) (w : World) (e : Ending) (w' : World) : Prop := ∃ v : Int, e = .returned (.int .i64 v) ∧ (∀ n, Lib.atoi t.data.toList = some n → v = n) ∧ Below w.heap.size w w'
set_option maxHeartbeats 4000000 in
theorem loose_v (t : ByteArray) (ht : t.size ≤ 18) (w : World) (hev : ErrV w) : Calls Tryd.prog 62 #[.string t] w (LoosePost t w) := by
  cases ha : Lib.atoi t.data.toList with
  | some n =>
    have HA := Lib.hid (Tryd.strconv_Atoi t n ht ha w)
    have HP : Hid (∀ w', Below w.heap.size w w' → LoosePost t w (.returned (.int .i64 n)) w') := fun w' b => ⟨n, rfl, (by intro n' h; rw [ha] at h; cases h; rfl), b⟩
    clear ha
    go_enter Tryd.func62, Tryd.ntmps62
    go_wp2_with fail
    refine HA.out.mono ?_; rintro e w' ⟨rfl, x, rfl⟩
    go_wp2_with fail
    go_ret
    exact HP.out _ (Lib.bytesWorld_below w _ x)
  | none =>
    obtain ⟨ev, h1, h2⟩ := hev
    have HA := Lib.hid (Tryd.strconv_Atoi_err t ht ha ev w h1 h2)
    have HP : Hid (∀ w', Below w.heap.size w w' → LoosePost t w (.returned (.int .i64 0)) w') := fun w' b => ⟨0, rfl, (by intro n' h; rw [ha] at h; cases h), b⟩
    clear ha h1 h2
    go_enter Tryd.func62, Tryd.ntmps62
    go_wp2_with fail
    refine HA.out.mono ?_; rintro e w' ⟨N, rfl, _, _, b⟩
    go_wp2_with fail
    go_ret
    exact HP.out _ b
theorem pieces4 {s : ByteArray} {k r : Nat} {l : List UInt8} (hk : k < 500) (hs : s.data.toList = perL k r ++ l) : Lib.atoi (s.extract 0 4).data.toList = some (1900 + (k : Int)) := by
  have e : (s.extract 0 4).data.toList = tw ((1900 + k) / 100) ++ tw ((1900 + k) % 100) := by
    have : (s.extract 0 4).data.toList = s.data.toList.take 4 := by simp
    rw [this, hs]; rfl
  rw [e, atoi_four _ _ (by omega) (by omega)]
  congr 1; omega

theorem pieces7 {s : ByteArray} {k r : Nat} {l : List UInt8} (hr : r < 12) (hs : s.data.toList = perL k r ++ l) : Lib.atoi (s.extract 5 7).data.toList = some ((r : Int) + 1) := by
  have e : (s.extract 5 7).data.toList = tw (r + 1) := by
    have : (s.extract 5 7).data.toList = (s.data.toList.take 7).drop 5 := by
      simp only [ByteArray.data_extract, Array.toList_extract]
      rw [List.extract_eq_take_drop, List.drop_take]
    rw [this, hs]; rfl
  rw [e, atoi_two _ (by omega)]
  congr 1
theorem ne_text {a b : ByteArray} (h : a ≠ b) : (a.toList == b.toList) = false := beq_eq_false_iff_ne.2 (fun e => h (ba_ext (by rw [← ByteArray.toList_eq, ← ByteArray.toList_eq]; exact e)))

/-- the period's number of any two numbers -/
theorem periodNumber_any (y m : Int) (w : World) : Calls Tryd.prog 49 #[.int .i64 y, .int .i64 m] w fun e w' => ∃ p : Int, e = .returned (.int .i64 p) ∧ (∀ k r : Nat, k < 500 → r < 12 → y = 1900 + (k : Int) → m = (r : Int) + 1 → p = 12 * (k : Int) + (r : Int)) ∧ w = w' := by
  by_cases h : ∃ k r : Nat, k < 500 ∧ r < 12 ∧ y = 1900 + (k : Int) ∧ m = (r : Int) + 1
  · obtain ⟨k, r, hk, hr, rfl, rfl⟩ := h
    exact (periodNumber_v k r hr hk w).mono fun e w' ⟨h1, h2⟩ => ⟨_, h1, fun k' r' _ _ e1 e2 => by omega, h2⟩
  · have HP : Hid (∀ p : Int, ∀ k r : Nat, k < 500 → r < 12 → y = 1900 + (k : Int) → m = (r : Int) + 1 → p = 12 * (k : Int) + (r : Int)) := fun p k r hk hr h1 h2 => absurd ⟨k, r, hk, hr, h1, h2⟩ h
    clear h
    go_enter Tryd.func49, Tryd.ntmps49
    go_wp2
    go_ret
    exact ⟨_, rfl, HP.out _, rfl⟩
def ParsePerPost (s : ByteArray) (w : World) (e : Ending) (w' : World) : Prop := ∃ p x : Int, e = .returned (.tuple #[.int .i64 p, .int .i64 x]) ∧ PerOf s p x ∧ Below w.heap.size w w'
set_option maxHeartbeats 8000000 in
theorem ParsePeriod_v (s : ByteArray) (w : World) (htab : Tab w) (hev : ErrV w) : Calls Tryd.prog 43 #[.string s] w (ParsePerPost s w) := by
  by_cases h7 : s.size = 7
  · have l1 := fun w h => loose_v (s.extract 0 4) (by simp; omega) w h
    have l2 := fun w h => loose_v (s.extract 5 7) (by simp; omega) w h
    have L1 := Lib.hid l1
    have L2 := Lib.hid l2
    have K : Hid (∀ w', Below w.heap.size w w' → ErrV w' ∧ Below w.heap.size w w') := fun w' b => ⟨hev.below b, b⟩
    have HT := Lib.hid htab
    clear l1 l2 htab hev
    go_enter Tryd.func43, Tryd.ntmps43
    go_wp2_with fail
    go_region_held3 (fun w' => ErrV w' ∧ Below w.heap.size w w')
      (first | exact K.out _ (Below.refl _ _).drew | exact K.out _ (Below.refl _ _) | exact K.out _ (keepC (by assumption) b1) | exact K.out _ (keepC (by assumption) b2) | exact K.out _ (by assumption))
      (first
        | (go_at_call_of 62 (Value.string (s.extract 0 4)); go_split_ands; refine (L1.out _ (by assumption)).mono ?_; rintro e w1 ⟨v1, rfl, hv1, b1⟩)
        | (go_at_call_of 62 (Value.string (s.extract 5 7)); go_split_ands; refine (L2.out _ (by assumption)).mono ?_; rintro e w2 ⟨v2, rfl, hv2, b2⟩; have GW : Below w.heap.size w w2 := keepC (by assumption) b2)
        | (go_at_call 49; go_split_ands; refine (periodNumber_any v1 v2 _).mono ?_; rintro e w3 ⟨p, rfl, hp, rfl⟩))
    replace hp := Lib.hid hp
    replace hv1 := Lib.hid hv1
    replace hv2 := Lib.hid hv2
    by_cases hm : ∃ k r : Nat, k < 500 ∧ r < 12 ∧ s = perT k r
    · obtain ⟨k, r, hk, hr, hs⟩ := hm
      have hl : s.data.toList = perL k r ++ [] := by rw [hs, List.append_nil]; rfl
      have e1 := hv1.out _ (pieces4 hk hl)
      have e2 := hv2.out _ (pieces7 hr hl)
      have e3 := hp.out k r hk hr e1 e2
      have hf := fun w h => FormatPeriod_in p k r e3 hr hk w h
      rw [← hs] at hf
      have HF := Lib.hid hf
      have HP : Hid (∀ w', Below w.heap.size w w' → ParsePerPost s w (.returned (.tuple #[.int .i64 p, .int .i64 0])) w') := fun w' b => ⟨p, 0, rfl, .inl ⟨k, r, hk, hr, hs, e3, rfl⟩, b⟩
      clear hl e1 e2 e3 hf hs
      go_wp2_with fail
      refine (HF.out _ (HT.out.below GW)).mono ?_; rintro e w4 ⟨rfl, g4⟩
      go_wp2_with fail
      go_ret2
      exact HP.out _ (keepC GW g4.below)
    · have HP : Hid (∀ w', Below w.heap.size w w' → ParsePerPost s w (.returned (.tuple #[.int .i64 0, .int .i64 54])) w') := fun w' b => ⟨0, 54, rfl, .inr ⟨fun k r hk hr e => hm ⟨k, r, hk, hr, e⟩, rfl, rfl⟩, b⟩
      have HF : Hid (∀ w, Tab w → Calls Tryd.prog 40 #[.int .i64 p] w fun e w' => ∃ T : ByteArray, e = .returned (.string T) ∧ T ≠ s ∧ Below w.heap.size w w') := fun w h => by
        by_cases hpr : p < 0 ∨ 5999 < p
        · exact (FormatPeriod_out p hpr w).mono fun e w' ⟨h1, h2⟩ => ⟨_, h1, (fun e => by rw [← e] at h7; simp [ByteArray.size] at h7), h2 ▸ Below.refl _ _⟩
        · obtain ⟨n, hn⟩ := Int.eq_ofNat_of_zero_le (show 0 ≤ p by omega)
          exact (FormatPeriod_in p (n / 12) (n % 12) (by omega) (by omega) (by omega) w h).mono fun e w' ⟨h1, h2⟩ => ⟨_, h1, fun e => hm ⟨n / 12, n % 12, by omega, by omega, e.symm⟩, h2.below⟩
      clear hm
      go_wp2_with fail
      refine (HF.out _ (HT.out.below GW)).mono ?_; rintro e w4 ⟨T, rfl, hT, g4⟩
      have hne := ne_text hT
      clear hT
      go_wp2_with fail
      go_ret2
      exact HP.out _ (keepC GW g4)
  · have HP : Hid (ParsePerPost s w (.returned (.tuple #[.int .i64 0, .int .i64 54])) w) := ⟨0, 54, rfl, .inr ⟨fun k r _ _ e => h7 (by rw [e]; rfl), rfl, rfl⟩, Below.refl _ _⟩
    have hd : ((s.size : Int) == 7) = false := beq_eq_false_iff_ne.2 (by omega)
    have hd2 : ((s.size : Int) != 7) = true := by rw [bne, hd]; rfl
    go_enter Tryd.func43, Tryd.ntmps43
    go_wp2_with fail
    go_ret2
    exact HP.out
end Go.Proofs.YtffnmejabphabaaDoor
