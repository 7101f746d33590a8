import Derived.Test.YtffnmejabphabaaDoorCal9
/- Package calendar and its reference: from a day to the k-th business day. -/
namespace Go.Proofs.YtffnmejabphabaaDoor
open Go.RowKit Go.Sort

theorem W.inv {b : Int → Bool} {s d : Int} {c : Nat} {a e : Int} (h : W b s d c (a, e)) : ((d < 0 ∨ 182620 < d) ∧ a = 0 ∧ e = 53) ∨ (0 ≤ d ∧ d ≤ 182620 ∧ b d = true ∧ c = 1 ∧ d = a ∧ e = 0) ∨
    (0 ≤ d ∧ d ≤ 182620 ∧ b d = true ∧ ∃ c', c = c' + 1 ∧ 1 ≤ c' ∧ W b s (d + s) c' (a, e)) ∨ (0 ≤ d ∧ d ≤ 182620 ∧ b d = false ∧ 1 ≤ c ∧ W b s (d + s) c (a, e)) := by
  cases h with
  | out h => exact .inl ⟨h, rfl, rfl⟩
  | hit h0 h1 h2 => exact .inr (.inl ⟨h0, h1, h2, rfl, rfl, rfl⟩)
  | more h0 h1 h2 h3 h4 => exact .inr (.inr (.inl ⟨h0, h1, h2, _, rfl, h3, h4⟩))
  | skip h0 h1 h2 h3 h4 => exact .inr (.inr (.inr ⟨h0, h1, h2, h3, h4⟩))
theorem zero_not {c : Nat} (h : 1 ≤ c) : ((c : Int) == 0) = false := beq_eq_false_iff_ne.2 (by omega)

/-- what Shift answers: a day and an error -/
def Sh (zs : List Int) (d k a e : Int) : Prop :=
  ((d < 0 ∨ 182620 < d) ∧ a = 0 ∧ e = 50) ∨ (0 ≤ d ∧ d ≤ 182620 ∧ (((k < -1000 ∨ 1000 < k) ∧ a = 0 ∧ e = 51) ∨ (-1000 ≤ k ∧ k ≤ 1000 ∧ ((400 < zs.length ∧ a = 0 ∧ e = 52) ∨ (zs.length ≤ 400 ∧
    ((∃ c : Nat, k = -(c : Int) ∧ 1 ≤ c ∧ c ≤ 1000 ∧ W (bus zs) (-1) (d + -1) c (a, e)) ∨ (k = 0 ∧ W (bus zs) 1 d 1 (a, e)) ∨ (∃ c : Nat, k = (c : Int) ∧ 1 ≤ c ∧ c ≤ 1000 ∧ W (bus zs) 1 (d + 1) c (a, e))))))))
theorem Sh.ex (zs : List Int) (d k : Int) : ∃ a e, Sh zs d k a e := by
  by_cases h : d < 0 ∨ 182620 < d
  · exact ⟨0, 50, .inl ⟨h, rfl, rfl⟩⟩
  by_cases hk : k < -1000 ∨ 1000 < k
  · exact ⟨0, 51, .inr ⟨by omega, by omega, .inl ⟨hk, rfl, rfl⟩⟩⟩
  by_cases hl : 400 < zs.length
  · exact ⟨0, 52, .inr ⟨by omega, by omega, .inr ⟨by omega, by omega, .inl ⟨hl, rfl, rfl⟩⟩⟩⟩
  rcases Int.lt_trichotomy k 0 with g | g | g
  · obtain ⟨c, hc⟩ := Int.eq_ofNat_of_zero_le (show 0 ≤ -k by omega)
    obtain ⟨⟨a, e⟩, hr⟩ := W.down (bus zs) (d + 2).toNat (d + -1) c (by omega) (by omega) (by omega)
    exact ⟨a, e, .inr ⟨by omega, by omega, .inr ⟨by omega, by omega, .inr ⟨by omega, .inl ⟨c, by omega, by omega, by omega, hr⟩⟩⟩⟩⟩
  · obtain ⟨⟨a, e⟩, hr⟩ := W.up (bus zs) (182622 - d).toNat d 1 (by omega) (by omega) (by omega)
    exact ⟨a, e, .inr ⟨by omega, by omega, .inr ⟨by omega, by omega, .inr ⟨by omega, .inr (.inl ⟨g, hr⟩)⟩⟩⟩⟩
  · obtain ⟨c, hc⟩ := Int.eq_ofNat_of_zero_le (show 0 ≤ k by omega)
    obtain ⟨⟨a, e⟩, hr⟩ := W.up (bus zs) (182622 - d).toNat (d + 1) c (by omega) (by omega) (by omega)
    exact ⟨a, e, .inr ⟨by omega, by omega, .inr ⟨by omega, by omega, .inr ⟨by omega, .inr (.inr ⟨c, by omega, by omega, by omega, hr⟩)⟩⟩⟩⟩

set_option maxHeartbeats 8000000 in
theorem walk_up (d : Int) (c : Nat) (ao : Option Addr) (cap : Nat) (zs : List Int) (a e : Int) (w : World) (h : RdI w ao cap zs) (hd0 : -1 ≤ d) (hd1 : d ≤ 182620) (hc : c ≤ 1000) (hw : W (bus zs) 1 (d + 1) c (a, e)) :
    Calls Tryd.prog 58 #[.int .i64 d, .int .i64 1, .int .i64 (c : Int), .slice ao zs.length cap] w fun e' w' => e' = .returned (.tuple #[.int .i64 a, .int .i64 e]) ∧ w = w' := by
  have HR := Lib.hid h
  have HW0 := Lib.hid hw
  clear h hw
  go_enter Tryd.func58, Tryd.ntmps58
  go_wp2_with fail
  go_loop [0, 2] (fun s0 s2 => ∃ (x : Int) (k : Nat), s0 = .int .i64 x ∧ s2 = .int .i64 (k : Int) ∧ -1 ≤ x ∧ x ≤ 182621 ∧ k ≤ 1000 ∧ Hid (W (bus zs) 1 x k (a, e))) (fun s0 _ => (182622 - intOf s0).toNat)
  case atStart => exact ⟨d + 1, c, by go_num, rfl, by omega, by omega, hc, HW0⟩
  case round =>
    obtain ⟨x, k, rfl, rfl, x0, x1, hk, hw⟩ := hrel
    rcases W.inv hw.out with ⟨ho, rfl, rfl⟩ | ⟨h0, h1, hb, rfl, rfl, rfl⟩ | ⟨h0, h1, hb, c', rfl, hc', hw'⟩ | ⟨h0, h1, hb, hc', hw'⟩
    · go_wp2_with fail
      refine (validDay_out x ho _).mono ?_; rintro e' w' ⟨rfl, rfl⟩
      go_wp2_with fail
      go_ret2
      exact ⟨rfl, rfl⟩
    · have HB := Lib.hid hb
      have h1' : x < 182621 := by omega
      clear hb hw
      go_wp2_with fail
      refine (validDay_in x h0 h1 _).mono ?_; rintro e' w' ⟨rfl, rfl⟩
      go_wp2_with fail
      refine (Business_v x ao cap zs _ HR.out).mono ?_; rintro e' w' ⟨rfl, rfl⟩
      rw [HB.out]
      go_wp2_with fail
      go_ret2
      exact ⟨rfl, rfl⟩
    · have HB := Lib.hid hb
      have h1' : x < 182621 := by omega
      have hz := zero_not hc'
      have HW : Hid (W (bus zs) 1 (x + 1) c' (a, e)) := hw'
      clear hb hw hw'
      go_wp2_with fail
      refine (validDay_in x h0 h1 _).mono ?_; rintro e' w' ⟨rfl, rfl⟩
      go_wp2_with fail
      refine (Business_v x ao cap zs _ HR.out).mono ?_; rintro e' w' ⟨rfl, rfl⟩
      rw [HB.out]
      go_wp2_with fail
      go_round
      case rel => exact ⟨x + 1, c', by go_num, by go_num, by omega, by omega, by omega, HW⟩
      case measure => simp [intOf]; omega
    · have HB := Lib.hid hb
      have h1' : x < 182621 := by omega
      have hz := zero_not hc'
      have HW : Hid (W (bus zs) 1 (x + 1) k (a, e)) := hw'
      clear hb hw hw'
      go_wp2_with fail
      refine (validDay_in x h0 h1 _).mono ?_; rintro e' w' ⟨rfl, rfl⟩
      go_wp2_with fail
      refine (Business_v x ao cap zs _ HR.out).mono ?_; rintro e' w' ⟨rfl, rfl⟩
      rw [HB.out]
      go_wp2_with fail
      go_round
      case rel => exact ⟨x + 1, k, by go_num, by go_num, by omega, by omega, hk, HW⟩
      case measure => simp [intOf]; omega

set_option maxHeartbeats 8000000 in
theorem walk_down (d : Int) (c : Nat) (ao : Option Addr) (cap : Nat) (zs : List Int) (a e : Int) (w : World) (h : RdI w ao cap zs) (hd0 : 0 ≤ d) (hd1 : d ≤ 182621) (hc : c ≤ 1000) (hw : W (bus zs) (-1) (d + -1) c (a, e)) :
    Calls Tryd.prog 58 #[.int .i64 d, .int .i64 (-1), .int .i64 (c : Int), .slice ao zs.length cap] w fun e' w' => e' = .returned (.tuple #[.int .i64 a, .int .i64 e]) ∧ w = w' := by
  have HR := Lib.hid h
  have HW0 := Lib.hid hw
  clear h hw
  go_enter Tryd.func58, Tryd.ntmps58
  go_wp2_with fail
  go_loop [0, 2] (fun s0 s2 => ∃ (x : Int) (k : Nat), s0 = .int .i64 x ∧ s2 = .int .i64 (k : Int) ∧ -1 ≤ x ∧ x ≤ 182621 ∧ k ≤ 1000 ∧ Hid (W (bus zs) (-1) x k (a, e))) (fun s0 _ => (intOf s0 + 2).toNat)
  case atStart => exact ⟨d + -1, c, by go_num, rfl, by omega, by omega, hc, HW0⟩
  case round =>
    obtain ⟨x, k, rfl, rfl, x0, x1, hk, hw⟩ := hrel
    rcases W.inv hw.out with ⟨ho, rfl, rfl⟩ | ⟨h0, h1, hb, rfl, rfl, rfl⟩ | ⟨h0, h1, hb, c', rfl, hc', hw'⟩ | ⟨h0, h1, hb, hc', hw'⟩
    · go_wp2_with fail
      refine (validDay_out x ho _).mono ?_; rintro e' w' ⟨rfl, rfl⟩
      go_wp2_with fail
      go_ret2
      exact ⟨rfl, rfl⟩
    · have HB := Lib.hid hb
      have h1' : x < 182621 := by omega
      clear hb hw
      go_wp2_with fail
      refine (validDay_in x h0 h1 _).mono ?_; rintro e' w' ⟨rfl, rfl⟩
      go_wp2_with fail
      refine (Business_v x ao cap zs _ HR.out).mono ?_; rintro e' w' ⟨rfl, rfl⟩
      rw [HB.out]
      go_wp2_with fail
      go_ret2
      exact ⟨rfl, rfl⟩
    · have HB := Lib.hid hb
      have h1' : x < 182621 := by omega
      have hz := zero_not hc'
      have HW : Hid (W (bus zs) (-1) (x + -1) c' (a, e)) := hw'
      clear hb hw hw'
      go_wp2_with fail
      refine (validDay_in x h0 h1 _).mono ?_; rintro e' w' ⟨rfl, rfl⟩
      go_wp2_with fail
      refine (Business_v x ao cap zs _ HR.out).mono ?_; rintro e' w' ⟨rfl, rfl⟩
      rw [HB.out]
      go_wp2_with fail
      go_round
      case rel => exact ⟨x + -1, c', by go_num, by go_num, by omega, by omega, by omega, HW⟩
      case measure => simp [intOf]; omega
    · have HB := Lib.hid hb
      have h1' : x < 182621 := by omega
      have hz := zero_not hc'
      have HW : Hid (W (bus zs) (-1) (x + -1) k (a, e)) := hw'
      clear hb hw hw'
      go_wp2_with fail
      refine (validDay_in x h0 h1 _).mono ?_; rintro e' w' ⟨rfl, rfl⟩
      go_wp2_with fail
      refine (Business_v x ao cap zs _ HR.out).mono ?_; rintro e' w' ⟨rfl, rfl⟩
      rw [HB.out]
      go_wp2_with fail
      go_round
      case rel => exact ⟨x + -1, k, by go_num, by go_num, by omega, by omega, hk, HW⟩
      case measure => simp [intOf]; omega

set_option maxHeartbeats 8000000 in
theorem Shift_v (d k : Int) (ao : Option Addr) (cap : Nat) (zs : List Int) (a e : Int) (w : World) (h : RdI w ao cap zs) (hs : Sh zs d k a e) :
    Calls Tryd.prog 37 #[.int .i64 d, .int .i64 k, .slice ao zs.length cap] w fun e' w' => e' = .returned (.tuple #[.int .i64 a, .int .i64 e]) ∧ w = w' := by
  have HR := Lib.hid h
  rcases hs with ⟨ho, rfl, rfl⟩ | ⟨h0, h1, hs⟩
  · clear h
    go_enter Tryd.func37, Tryd.ntmps37
    go_wp2_with fail
    refine (validDay_out d ho _).mono ?_; rintro e' w' ⟨rfl, rfl⟩
    go_wp2_with fail
    go_ret2
    exact ⟨rfl, rfl⟩
  rcases hs with ⟨ho, rfl, rfl⟩ | ⟨k0, k1, hs⟩
  · clear h
    rcases ho with ho | ho
    all_goals
      go_enter Tryd.func37, Tryd.ntmps37
      go_wp2_with fail
      refine (validDay_in d h0 h1 _).mono ?_; rintro e' w' ⟨rfl, rfl⟩
      go_wp2_with fail
      go_ret2
      exact ⟨rfl, rfl⟩
  rcases hs with ⟨hl, rfl, rfl⟩ | ⟨hl, hs⟩
  · have hd : decide (400 < (zs.length : Int)) = true := by simp; omega
    clear h
    go_enter Tryd.func37, Tryd.ntmps37
    go_wp2_with fail
    refine (validDay_in d h0 h1 _).mono ?_; rintro e' w' ⟨rfl, rfl⟩
    go_wp2_with fail
    go_ret2
    exact ⟨rfl, rfl⟩
  have hd : decide (400 < (zs.length : Int)) = false := by simp; omega
  rcases hs with ⟨c, rfl, hc0, hc1, hw⟩ | ⟨rfl, hw⟩ | ⟨c, rfl, hc0, hc1, hw⟩
  · have HW := Lib.hid hw
    have hn : decide (-(c : Int) < 0) = true := by simp; omega
    clear h hw
    go_enter Tryd.func37, Tryd.ntmps37
    go_wp2_with fail
    refine (validDay_in d h0 h1 _).mono ?_; rintro e' w' ⟨rfl, rfl⟩
    go_wp2_with fail
    refine (walk_down d c ao cap zs a e _ HR.out h0 (by omega) hc1 HW.out).mono ?_; rintro e' w' ⟨rfl, rfl⟩
    go_wp2_with fail
    go_ret2
    exact ⟨rfl, rfl⟩
  · have HW : Hid (W (bus zs) 1 (d - 1 + 1) 1 (a, e)) := by unfold Hid; rw [show d - 1 + 1 = d by omega]; exact hw
    clear h hw
    go_enter Tryd.func37, Tryd.ntmps37
    go_wp2_with fail
    refine (validDay_in d h0 h1 _).mono ?_; rintro e' w' ⟨rfl, rfl⟩
    go_wp2_with fail
    refine (walk_up (d - 1) 1 ao cap zs a e _ HR.out (by omega) (by omega) (by omega) HW.out).mono ?_; rintro e' w' ⟨rfl, rfl⟩
    go_wp2_with fail
    go_ret2
    exact ⟨rfl, rfl⟩
  · have HW := Lib.hid hw
    have hn : decide ((c : Int) < 0) = false := by first | (simp; done) | (simp; omega)
    have hz := zero_not hc0
    clear h hw
    go_enter Tryd.func37, Tryd.ntmps37
    go_wp2_with fail
    refine (validDay_in d h0 h1 _).mono ?_; rintro e' w' ⟨rfl, rfl⟩
    go_wp2_with fail
    refine (walk_up d c ao cap zs a e _ HR.out (by omega) (by omega) hc1 HW.out).mono ?_; rintro e' w' ⟨rfl, rfl⟩
    go_wp2_with fail
    go_ret2
    exact ⟨rfl, rfl⟩

set_option maxHeartbeats 8000000 in
theorem rShift_v (d k : Int) (ao : Option Addr) (cap : Nat) (zs : List Int) (a e : Int) (w : World) (h : RdI w ao cap zs) (hs : Sh zs d k a e) :
    Calls Tryd.prog 38 #[.int .i64 d, .int .i64 k, .slice ao zs.length cap] w fun e' w' => e' = .returned (.tuple #[.int .i64 a, .int .i64 e]) ∧ w = w' := by
  have HR := Lib.hid h
  rcases hs with ⟨ho, rfl, rfl⟩ | ⟨h0, h1, hs⟩
  · clear h
    rcases ho with ho | ho
    all_goals
      go_enter Tryd.func38, Tryd.ntmps38
      go_wp2_with fail
      go_ret2
      exact ⟨rfl, rfl⟩
  have h1s : d < 182621 := by omega
  rcases hs with ⟨ho, rfl, rfl⟩ | ⟨k0, k1, hs⟩
  · clear h
    rcases ho with ho | ho
    all_goals
      go_enter Tryd.func38, Tryd.ntmps38
      go_wp2_with fail
      go_ret2
      exact ⟨rfl, rfl⟩
  rcases hs with ⟨hl, rfl, rfl⟩ | ⟨hl, hs⟩
  · have hd : decide (400 < (zs.length : Int)) = true := by simp; omega
    clear h
    go_enter Tryd.func38, Tryd.ntmps38
    go_wp2_with fail
    go_ret2
    exact ⟨rfl, rfl⟩
  have hd : decide (400 < (zs.length : Int)) = false := by simp; omega
  rcases hs with ⟨c, rfl, hc0, hc1, hw⟩ | ⟨rfl, hw⟩ | ⟨c, rfl, hc0, hc1, hw⟩
  · have HW0 := Lib.hid hw
    have hn : decide (-(c : Int) < 0) = true := by simp; omega
    have hn1 : decide (0 < c) = true := by simp; omega
    have hn2 : decide (0 < (c : Int)) = true := by simp; omega
    have hz := zero_not hc0
    have hmx : max (c : Int) 1 = (c : Int) := by omega
    clear h hw
    go_enter Tryd.func38, Tryd.ntmps38
    go_wp2_with fail
    go_loop [1, 9] (fun s1 s9 => ∃ (x : Int) (k : Nat), s9 = .int .i64 x ∧ s1 = .int .i64 (k : Int) ∧ -1 ≤ x ∧ x ≤ 182621 ∧ k ≤ 1000 ∧ Hid (W (bus zs) (-1) x k (a, e))) (fun _ s9 => (intOf s9 + 2).toNat)
    case atStart => exact ⟨d + -1, c, by go_num, rfl, by omega, by omega, hc1, HW0⟩
    case round =>
      obtain ⟨x, k, rfl, rfl, x0, x1, hk, hw⟩ := hrel
      rcases W.inv hw.out with ⟨ho, rfl, rfl⟩ | ⟨h0, h1, hb, rfl, rfl, rfl⟩ | ⟨h0, h1, hb, c', rfl, hc', hw'⟩ | ⟨h0, h1, hb, hc', hw'⟩
      · rcases ho with ho | ho
        all_goals
          go_wp2_with fail
          go_ret2
          exact ⟨rfl, rfl⟩
      · have HB := Lib.hid hb
        have h1' : x < 182621 := by omega
        clear hb hw
        go_wp2_with fail
        refine (rBusiness_v x ao cap zs _ HR.out).mono ?_; rintro e' w' ⟨rfl, rfl⟩
        rw [HB.out]
        go_wp2_with fail
        go_ret2
        exact ⟨rfl, rfl⟩
      · have HB := Lib.hid hb
        have h1' : x < 182621 := by omega
        have hz := zero_not hc'
        have HW : Hid (W (bus zs) (-1) (x + -1) c' (a, e)) := hw'
        clear hb hw hw'
        go_wp2_with fail
        refine (rBusiness_v x ao cap zs _ HR.out).mono ?_; rintro e' w' ⟨rfl, rfl⟩
        rw [HB.out]
        go_wp2_with fail
        go_round
        case rel => exact ⟨x + -1, c', by go_num, by go_num, by omega, by omega, by omega, HW⟩
        case measure => simp [intOf]; omega
      · have HB := Lib.hid hb
        have h1' : x < 182621 := by omega
        have hz := zero_not hc'
        have HW : Hid (W (bus zs) (-1) (x + -1) k (a, e)) := hw'
        clear hb hw hw'
        go_wp2_with fail
        refine (rBusiness_v x ao cap zs _ HR.out).mono ?_; rintro e' w' ⟨rfl, rfl⟩
        rw [HB.out]
        go_wp2_with fail
        go_round
        case rel => exact ⟨x + -1, k, by go_num, by go_num, by omega, by omega, hk, HW⟩
        case measure => simp [intOf]; omega
  · have hinv := W.inv hw
    rcases hinv with ⟨ho, rfl, rfl⟩ | ⟨_, _, hb, _, rfl, rfl⟩ | ⟨_, _, hb, c', hc1, hc', hw'⟩ | ⟨_, _, hb, hc', hw'⟩
    · omega
    · have HB := Lib.hid hb
      clear h hw hb
      go_enter Tryd.func38, Tryd.ntmps38
      go_wp2_with fail
      refine (rBusiness_v _ ao cap zs _ HR.out).mono ?_; rintro e' w' ⟨rfl, rfl⟩
      rw [HB.out]
      go_wp2_with fail
      go_ret2
      exact ⟨rfl, rfl⟩
    · omega
    · have HB := Lib.hid hb
      have HW0 := Lib.hid hw'
      clear h hw hb hw'
      go_enter Tryd.func38, Tryd.ntmps38
      go_wp2_with fail
      refine (rBusiness_v _ ao cap zs _ HR.out).mono ?_; rintro e' w' ⟨rfl, rfl⟩
      rw [HB.out]
      go_wp2_with fail
      go_loop [1, 9] (fun s1 s9 => ∃ (x : Int) (k : Nat), s9 = .int .i64 x ∧ s1 = .int .i64 (k : Int) ∧ -1 ≤ x ∧ x ≤ 182621 ∧ k ≤ 1000 ∧ Hid (W (bus zs) 1 x k (a, e))) (fun _ s9 => (182622 - intOf s9).toNat)
      case atStart => exact ⟨d + 1, 1, by go_num, rfl, by omega, by omega, by omega, HW0⟩
      case round =>
        obtain ⟨x, k, rfl, rfl, x0, x1, hk, hw⟩ := hrel
        rcases W.inv hw.out with ⟨ho, rfl, rfl⟩ | ⟨h0, h1, hb, rfl, rfl, rfl⟩ | ⟨h0, h1, hb, c', rfl, hc', hw'⟩ | ⟨h0, h1, hb, hc', hw'⟩
        · rcases ho with ho | ho
          all_goals
            go_wp2_with fail
            go_ret2
            exact ⟨rfl, rfl⟩
        · have HB := Lib.hid hb
          have h1' : x < 182621 := by omega
          clear hb hw
          go_wp2_with fail
          refine (rBusiness_v x ao cap zs _ HR.out).mono ?_; rintro e' w' ⟨rfl, rfl⟩
          rw [HB.out]
          go_wp2_with fail
          go_ret2
          exact ⟨rfl, rfl⟩
        · have HB := Lib.hid hb
          have h1' : x < 182621 := by omega
          have hz := zero_not hc'
          have HW : Hid (W (bus zs) 1 (x + 1) c' (a, e)) := hw'
          clear hb hw hw'
          go_wp2_with fail
          refine (rBusiness_v x ao cap zs _ HR.out).mono ?_; rintro e' w' ⟨rfl, rfl⟩
          rw [HB.out]
          go_wp2_with fail
          go_round
          case rel => exact ⟨x + 1, c', by go_num, by go_num, by omega, by omega, by omega, HW⟩
          case measure => simp [intOf]; omega
        · have HB := Lib.hid hb
          have h1' : x < 182621 := by omega
          have hz := zero_not hc'
          have HW : Hid (W (bus zs) 1 (x + 1) k (a, e)) := hw'
          clear hb hw hw'
          go_wp2_with fail
          refine (rBusiness_v x ao cap zs _ HR.out).mono ?_; rintro e' w' ⟨rfl, rfl⟩
          rw [HB.out]
          go_wp2_with fail
          go_round
          case rel => exact ⟨x + 1, k, by go_num, by go_num, by omega, by omega, hk, HW⟩
          case measure => simp [intOf]; omega
  · have HW0 := Lib.hid hw
    have hn : decide ((c : Int) < 0) = false := by first | (simp; done) | (simp; omega)
    have hz := zero_not hc0
    have hmx : max (c : Int) 1 = (c : Int) := by omega
    clear h hw
    go_enter Tryd.func38, Tryd.ntmps38
    go_wp2_with fail
    go_loop [1, 9] (fun s1 s9 => ∃ (x : Int) (k : Nat), s9 = .int .i64 x ∧ s1 = .int .i64 (k : Int) ∧ -1 ≤ x ∧ x ≤ 182621 ∧ k ≤ 1000 ∧ Hid (W (bus zs) 1 x k (a, e))) (fun _ s9 => (182622 - intOf s9).toNat)
    case atStart => exact ⟨d + 1, c, by go_num, rfl, by omega, by omega, hc1, HW0⟩
    case round =>
      obtain ⟨x, k, rfl, rfl, x0, x1, hk, hw⟩ := hrel
      rcases W.inv hw.out with ⟨ho, rfl, rfl⟩ | ⟨h0, h1, hb, rfl, rfl, rfl⟩ | ⟨h0, h1, hb, c', rfl, hc', hw'⟩ | ⟨h0, h1, hb, hc', hw'⟩
      · rcases ho with ho | ho
        all_goals
          go_wp2_with fail
          go_ret2
          exact ⟨rfl, rfl⟩
      · have HB := Lib.hid hb
        have h1' : x < 182621 := by omega
        clear hb hw
        go_wp2_with fail
        refine (rBusiness_v x ao cap zs _ HR.out).mono ?_; rintro e' w' ⟨rfl, rfl⟩
        rw [HB.out]
        go_wp2_with fail
        go_ret2
        exact ⟨rfl, rfl⟩
      · have HB := Lib.hid hb
        have h1' : x < 182621 := by omega
        have hz := zero_not hc'
        have HW : Hid (W (bus zs) 1 (x + 1) c' (a, e)) := hw'
        clear hb hw hw'
        go_wp2_with fail
        refine (rBusiness_v x ao cap zs _ HR.out).mono ?_; rintro e' w' ⟨rfl, rfl⟩
        rw [HB.out]
        go_wp2_with fail
        go_round
        case rel => exact ⟨x + 1, c', by go_num, by go_num, by omega, by omega, by omega, HW⟩
        case measure => simp [intOf]; omega
      · have HB := Lib.hid hb
        have h1' : x < 182621 := by omega
        have hz := zero_not hc'
        have HW : Hid (W (bus zs) 1 (x + 1) k (a, e)) := hw'
        clear hb hw hw'
        go_wp2_with fail
        refine (rBusiness_v x ao cap zs _ HR.out).mono ?_; rintro e' w' ⟨rfl, rfl⟩
        rw [HB.out]
        go_wp2_with fail
        go_round
        case rel => exact ⟨x + 1, k, by go_num, by go_num, by omega, by omega, hk, HW⟩
        case measure => simp [intOf]; omega
end Go.Proofs.YtffnmejabphabaaDoor
