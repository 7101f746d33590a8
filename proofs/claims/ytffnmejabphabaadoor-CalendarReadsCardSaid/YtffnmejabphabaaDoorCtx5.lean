import Derived.Test.YtffnmejabphabaaDoorCtx4
/- The reference of package calendar: dates and periods read off a text. -/
namespace Go.Proofs.YtffnmejabphabaaDoor
open Go.RowKit Go.Sort

theorem decFrom_stop : ∀ (l : List UInt8) (acc k n : Nat) (b : UInt8), Lib.decFrom acc (l.take k) = some n → l[k]? = some b → Lib.digitVal b = none → Lib.decFrom acc l = none := by
  intro l
  induction l with
  | nil => intro acc k n b _ hb; simp at hb
  | cons a t ih =>
    intro acc k n b h hb hd
    cases k with
    | zero =>
      simp only [List.getElem?_cons_zero, Option.some.injEq] at hb
      subst hb
      simp [Lib.decFrom, hd]
    | succ k =>
      simp only [List.take_succ_cons, Lib.decFrom] at h ⊢
      cases ha : Lib.digitVal a with
      | none => rfl
      | some e =>
        simp only [ha] at h ⊢
        exact ih _ k n b h (by simpa using hb) hd
theorem digitVal_is {b : UInt8} {c : Nat} (hc : b.toNat = c) (h1 : 48 ≤ c) (h2 : c ≤ 57) : Lib.digitVal b = some (c - 48) := by
  unfold Lib.digitVal
  rw [hc, if_pos ⟨h1, h2⟩]
theorem digitVal_no {b : UInt8} {c : Nat} (hc : b.toNat = c) (h : c < 48 ∨ 57 < c) : Lib.digitVal b = none := by
  unfold Lib.digitVal
  rw [hc, if_neg (by omega)]
/-- a piece of a text -/
def sub (s : ByteArray) (i n : Nat) : List UInt8 := (s.data.toList.drop i).take n
theorem sub_get {s : ByteArray} {i n j : Nat} (h : i + n ≤ s.size) (hj : j < n) : (sub s i n)[j]? = some (s[i + j]'(by omega)) := by
  unfold sub
  rw [List.getElem?_take, if_pos hj, List.getElem?_drop, List.getElem?_eq_getElem (by simp; omega)]
  rfl

set_option maxHeartbeats 4000000 in
theorem number_v (s : ByteArray) (i n : Nat) (h : i + n ≤ s.size) (hn : n ≤ 4) (hi : i ≤ 100) (w : World) :
    Calls Tryd.prog 63 #[.string s, .int .i64 (i : Int), .int .i64 (n : Int)] w fun e w' => e = .returned (.int .i64 (nm (sub s i n))) ∧ w = w' := by
  go_enter Tryd.func63, Tryd.ntmps63
  go_wp2_with fail
  go_loop [7, 8] (fun s7 s8 => ∃ j v : Nat, j ≤ n ∧ s8 = .int .i64 ((i : Int) + (j : Int)) ∧ s7 = .int .i64 (v : Int) ∧ Hid (Lib.decFrom 0 ((sub s i n).take j) = some v) ∧ v < 10 ^ j) (fun _ s8 => i + n - (intOf s8).toNat)
  case atStart => exact ⟨0, 0, by omega, by go_num, rfl, rfl, by omega⟩
  case round =>
    obtain ⟨j, v, hj, rfl, rfl, hv, hvb⟩ := hrel
    have hp : 10 ^ j ≤ 10 ^ 4 := Nat.pow_le_pow_right (by omega) (by omega)
    have hv4 : v < 10000 := by omega
    by_cases hlt : j < n
    · have hk : i + j < s.size := by omega
      have hg := sub_get h hlt
      obtain ⟨c, hc⟩ : ∃ c, (s[i + j]'hk).toNat = c := ⟨_, rfl⟩
      have hcb : c < 256 := by rw [← hc]; exact (s[i + j]'hk).toNat_lt
      by_cases hd : 48 ≤ c ∧ c ≤ 57
      · have hv2 := Lib.decFrom_take (sub s i n) j 0 v _ _ hv.out hg (digitVal_is hc hd.1 hd.2)
        have HV2 := Lib.hid hv2
        have hvb2 : Hid (v * 10 + (c - 48) < 10 ^ (j + 1)) := by unfold Hid; rw [Nat.pow_succ]; omega
        have hd1 := hd.1
        have hd2 := hd.2
        have e1 : (i : Int) + (j : Int) < (i : Int) + (n : Int) := by omega
        have e2 : ((i : Int) + (j : Int)).toNat = i + j := by omega
        have e3 : (i : Int) + (j : Int) < (s.size : Int) := by omega
        clear hv hg hv2 hvb hp hd
        go_wp2_with fail
        go_round
        case rel => exact ⟨j + 1, v * 10 + (c - 48), by omega, by go_num, by go_num, HV2, hvb2.out⟩
        case measure => simp [intOf]; omega
      · have hno := decFrom_stop _ 0 j v _ hv.out hg (digitVal_no hc (by omega))
        have HN : Hid (nm (sub s i n) = -1) := by unfold Hid nm; rw [hno]
        have e1 : (i : Int) + (j : Int) < (i : Int) + (n : Int) := by omega
        have e2 : ((i : Int) + (j : Int)).toNat = i + j := by omega
        have e3 : (i : Int) + (j : Int) < (s.size : Int) := by omega
        clear hv hg hno hvb hp
        by_cases hlo : c < 48
        · clear hd
          go_wp2_with fail
          go_ret
          exact ⟨ret_i64c HN.out.symm, rfl⟩
        · have hhi : 57 < c := by omega
          have hlo2 : 48 ≤ c := by omega
          clear hd hlo
          go_wp2_with fail
          go_ret
          exact ⟨ret_i64c HN.out.symm, rfl⟩
    · obtain rfl : j = n := by omega
      have HN : Hid (nm (sub s i j) = (v : Int)) := by
        unfold Hid nm
        have := hv.out
        rw [List.take_of_length_le (by unfold sub; rw [List.length_take]; omega)] at this
        rw [this]
      clear hv
      go_wp2_with fail
      go_ret
      exact ⟨ret_i64c HN.out.symm, rfl⟩

theorem byte_at {s : ByteArray} {j : Nat} (h : j < s.size) {l : List UInt8} (hl : s.data.toList = l) : l[j]? = some (s[j]'h) := by
  rw [← hl, List.getElem?_eq_getElem (by simpa using h)]
  rfl
set_option maxHeartbeats 16000000 in
theorem rParseDate_v (s : ByteArray) (w : World) : Calls Tryd.prog 45 #[.string s] w (ParseDayPost s w) := by
  have B0 := below_new w (.cells #[.int .i64 0, .int .i64 0, .int .i64 0] 23)
  by_cases h10 : s.size = 10
  · obtain ⟨b0, b1, b2, b3, b4, b5, b6, b7, b8, b9, hs⟩ := ten_bytes s h10
    obtain ⟨hyes, hno⟩ := day_of_bytes hs
    have g4 : s[4]'(by omega) = b4 := by have := byte_at (j := 4) (by omega) hs; simpa using this.symm
    have g7 : s[7]'(by omega) = b7 := by have := byte_at (j := 7) (by omega) hs; simpa using this.symm
    obtain ⟨c4, hc4⟩ : ∃ c, (s[4]'(by omega)).toNat = c := ⟨_, rfl⟩
    obtain ⟨c7, hc7⟩ : ∃ c, (s[7]'(by omega)).toNat = c := ⟨_, rfl⟩
    have k4 : b4 = 45 ↔ c4 = 45 := by
      rw [← hc4, g4]
      exact ⟨fun e => by rw [e]; rfl, fun e => UInt8.toNat_inj.1 (by rw [e]; rfl)⟩
    have k7 : b7 = 45 ↔ c7 = 45 := by
      rw [← hc7, g7]
      exact ⟨fun e => by rw [e]; rfl, fun e => UInt8.toNat_inj.1 (by rw [e]; rfl)⟩
    have h4z : 4 < s.size := by omega
    have h7z : 7 < s.size := by omega
    have HBad : Hid (DayOf s 0 0 0 54 → ∀ w', Below w.heap.size w w' → ParseDayPost s w (.returned (.tuple #[.agg #[.int .i64 0, .int .i64 0, .int .i64 0], .int .i64 54])) w') := fun h w' b => ⟨0, 0, 0, 54, rfl, h, b⟩
    by_cases h4 : c4 = 45
    · by_cases h7 : c7 = 45
      · have n1 := number_v s 0 4 (by omega) (by omega) (by omega)
        have n2 : ∀ w, Calls Tryd.prog 63 #[.string s, .int .i64 5, .int .i64 2] w fun e w' => e = .returned (.int .i64 (nm (sub s 5 2))) ∧ w = w' := number_v s 5 2 (by omega) (by omega) (by omega)
        have n3 : ∀ w, Calls Tryd.prog 63 #[.string s, .int .i64 8, .int .i64 2] w fun e w' => e = .returned (.int .i64 (nm (sub s 8 2))) ∧ w = w' := number_v s 8 2 (by omega) (by omega) (by omega)
        have f1 : sub s 0 4 = [b0, b1, b2, b3] := by unfold sub; rw [hs]; rfl
        have f2 : sub s 5 2 = [b5, b6] := by unfold sub; rw [hs]; rfl
        have f3 : sub s 8 2 = [b8, b9] := by unfold sub; rw [hs]; rfl
        rw [f1] at n1
        rw [f2] at n2
        rw [f3] at n3
        obtain ⟨v1, hv1⟩ : ∃ v, nm [b0, b1, b2, b3] = v := ⟨_, rfl⟩
        obtain ⟨v2, hv2⟩ : ∃ v, nm [b5, b6] = v := ⟨_, rfl⟩
        obtain ⟨v3, hv3⟩ : ∃ v, nm [b8, b9] = v := ⟨_, rfl⟩
        rw [hv1, hv2, hv3] at hyes hno
        rw [hv1] at n1
        rw [hv2] at n2
        rw [hv3] at n3
        have N1 := Lib.hid n1
        have N2 := Lib.hid n2
        have N3 := Lib.hid n3
        have W0 := DBox.new w 0 0 0
        cases hv : vdI v1 v2 v3
        · have HP := Lib.hid (HBad.out (hno (.inr (.inr hv))))
          have HV := Lib.hid (rValidDate_out v1 v2 v3 hv)
          clear hyes hno g4 g7 k4 k7 hs n1 n2 n3 f1 f2 f3 hv1 hv2 hv3 hv HBad
          go_enter Tryd.func45, Tryd.ntmps45
          go_wp2_with fail
          refine (N1.out _).mono ?_; rintro e w' ⟨rfl, rfl⟩
          go_wp2_with fail
          refine (N2.out _).mono ?_; rintro e w' ⟨rfl, rfl⟩
          go_wp2_with fail
          refine (N3.out _).mono ?_; rintro e w' ⟨rfl, rfl⟩
          go_wp2_with fail
          refine (HV.out _).mono ?_; rintro e w1 ⟨rfl, b1'⟩
          have B1 : Below w.heap.size w w1 := (keepC B0 (below_new _ (.cells #[.int .i64 v1, .int .i64 v2, .int .i64 v3] 23))).trans (b1'.mono (by simp; omega))
          obtain ⟨⟨j0, j1, j2⟩, y0, y1, y2⟩ := ((W0.below (below_new _ (.cells #[.int .i64 v1, .int .i64 v2, .int .i64 v3] 23))).below b1').cells
          go_wp2_with fail
          refine bodyPost_ret (v := .tuple #[.agg #[.int .i64 0, .int .i64 0, .int .i64 0], .int .i64 54]) (by simp [results, Tryd.results45, go_sem, j0, j1, j2]) rfl ?_
          first | exact HP.out _ (((B1.setCell (Nat.le_refl _) _).setCell (Nat.le_refl _) _).setCell (Nat.le_refl _) _) | exact HP.out _ B1
        · have HP : Hid (∀ w', Below w.heap.size w w' → ParseDayPost s w (.returned (.tuple #[.agg #[.int .i64 v1, .int .i64 v2, .int .i64 v3], .int .i64 0])) w') := fun w' b => ⟨v1, v2, v3, 0, rfl, hyes (k4.2 h4) (k7.2 h7) hv, b⟩
          obtain ⟨k, r, hk, hr, e1, e2, e3, e4⟩ := vd_true hv
          have hvv := rValidDate_in k r v3 hk hr e3 e4
          rw [← e1, ← e2] at hvv
          have HV := Lib.hid hvv
          clear hyes hno g4 g7 k4 k7 hs n1 n2 n3 f1 f2 f3 hv1 hv2 hv3 hv HBad hvv e1 e2 e3 e4
          go_enter Tryd.func45, Tryd.ntmps45
          go_wp2_with fail
          refine (N1.out _).mono ?_; rintro e w' ⟨rfl, rfl⟩
          go_wp2_with fail
          refine (N2.out _).mono ?_; rintro e w' ⟨rfl, rfl⟩
          go_wp2_with fail
          refine (N3.out _).mono ?_; rintro e w' ⟨rfl, rfl⟩
          go_wp2_with fail
          refine (HV.out _).mono ?_; rintro e w1 ⟨rfl, b1'⟩
          have B1 : Below w.heap.size w w1 := (keepC B0 (below_new _ (.cells #[.int .i64 v1, .int .i64 v2, .int .i64 v3] 23))).trans (b1'.mono (by simp; omega))
          obtain ⟨⟨j0, j1, j2⟩, y0, y1, y2⟩ := ((W0.below (below_new _ (.cells #[.int .i64 v1, .int .i64 v2, .int .i64 v3] 23))).below b1').cells
          obtain ⟨⟨k0, k1, k2⟩, _⟩ := ((DBox.new (w.alloc (.cells #[.int .i64 0, .int .i64 0, .int .i64 0] 23)) v1 v2 v3).below b1').cells
          rw [World.size_alloc] at k0 k1 k2
          go_wp2_with fail
          refine bodyPost_ret (v := .tuple #[.agg #[.int .i64 v1, .int .i64 v2, .int .i64 v3], .int .i64 0]) (by simp [results, Tryd.results45, go_sem, j0, j1, j2]) rfl ?_
          exact HP.out _ (((B1.setCell (Nat.le_refl _) _).setCell (Nat.le_refl _) _).setCell (Nat.le_refl _) _)
      · have HP := Lib.hid (HBad.out (hno (.inr (.inl (fun e => h7 (k7.1 e))))))
        have hd7 : ((c7 : Int) == 45) = false := beq_eq_false_iff_ne.2 (by omega)
        have hd7b : ((c7 : Int) != 45) = true := by rw [bne, hd7]; rfl
        have hd4 : ((c4 : Int) == 45) = true := beq_iff_eq.2 (by omega)
        clear hyes hno g4 g7 k4 k7 hs HBad h7
        go_enter Tryd.func45, Tryd.ntmps45
        go_wp2_with fail
        refine bodyPost_ret (v := .tuple #[.agg #[.int .i64 0, .int .i64 0, .int .i64 0], .int .i64 54]) (by simp [results, Tryd.results45, go_sem]) rfl ?_
        exact HP.out _ B0
    · have HP := Lib.hid (HBad.out (hno (.inl (fun e => h4 (k4.1 e)))))
      have hd4 : ((c4 : Int) == 45) = false := beq_eq_false_iff_ne.2 (by omega)
      have hd4b : ((c4 : Int) != 45) = true := by rw [bne, hd4]; rfl
      clear hyes hno g4 g7 k4 k7 hs HBad h4
      go_enter Tryd.func45, Tryd.ntmps45
      go_wp2_with fail
      refine bodyPost_ret (v := .tuple #[.agg #[.int .i64 0, .int .i64 0, .int .i64 0], .int .i64 54]) (by simp [results, Tryd.results45, go_sem]) rfl ?_
      exact HP.out _ B0
  · have HP : Hid (∀ w', Below w.heap.size w w' → ParseDayPost s w (.returned (.tuple #[.agg #[.int .i64 0, .int .i64 0, .int .i64 0], .int .i64 54])) w') := fun w' b => ⟨0, 0, 0, 54, rfl, .inr ⟨fun k r i _ _ _ _ e => h10 (by rw [e]; rfl), rfl, rfl, rfl, rfl⟩, b⟩
    have hd : ((s.size : Int) == 10) = false := beq_eq_false_iff_ne.2 (by omega)
    have hd2 : ((s.size : Int) != 10) = true := by rw [bne, hd]; rfl
    go_enter Tryd.func45, Tryd.ntmps45
    go_wp2_with fail
    refine bodyPost_ret (v := .tuple #[.agg #[.int .i64 0, .int .i64 0, .int .i64 0], .int .i64 54]) (by simp [results, Tryd.results45, go_sem]) rfl ?_
    exact HP.out _ B0
end Go.Proofs.YtffnmejabphabaaDoor
