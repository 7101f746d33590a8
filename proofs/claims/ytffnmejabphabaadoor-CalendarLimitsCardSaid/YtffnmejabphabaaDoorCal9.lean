import Derived.Test.YtffnmejabphabaaDoorCal8
import Derived.Test.YtffnmejabphabaaDoorCalM2
import Derived.Test.YtffnmejabphabaaDoorFrame5
/- Package calendar and its reference: business days, and the walk to the next ones. -/
namespace Go.Proofs.YtffnmejabphabaaDoor
open Go.RowKit Go.Sort

theorem bus_off {h : List Int} {d : Int} (e : d < 0 ∨ 182620 < d) : bus h d = false := by
  unfold bus
  rcases e with e | e
  · rw [decide_eq_false (show ¬ 0 ≤ d by omega)]; rfl
  · rw [decide_eq_false (show ¬ d ≤ 182620 by omega), Bool.and_false]; rfl
theorem bus_end {h : List Int} {d : Int} (e : 5 ≤ d % 7) : bus h d = false := by
  unfold bus
  rw [decide_eq_false (show ¬ d % 7 < 5 by omega), Bool.and_false]; rfl
theorem bus_in {h : List Int} {d : Int} (h0 : 0 ≤ d) (h1 : d ≤ 182620) (e : d % 7 < 5) : bus h d = !h.contains d := by
  unfold bus
  rw [decide_eq_true h0, decide_eq_true h1, decide_eq_true e]; rfl

set_option maxHeartbeats 4000000 in
theorem Business_v (d : Int) (ao : Option Addr) (cap : Nat) (zs : List Int) (w : World) (h : RdI w ao cap zs) :
    Calls Tryd.prog 35 #[.int .i64 d, .slice ao zs.length cap] w fun e w' => e = .returned (.bool (bus zs d)) ∧ w = w' := by
  by_cases ho : d < 0 ∨ 182620 < d
  · have HB := Lib.hid (bus_off (h := zs) ho)
    have HV := Lib.hid (validDay_out d ho)
    clear ho h
    go_enter Tryd.func35, Tryd.ntmps35
    go_wp2_with fail
    refine (HV.out _).mono ?_; rintro e w' ⟨rfl, rfl⟩
    go_wp2_with fail
    go_ret
    exact ⟨ret_boolc HB.out.symm, rfl⟩
  · have h0 : 0 ≤ d := by omega
    have h1 : d ≤ 182620 := by omega
    have HV := Lib.hid (validDay_in d h0 h1)
    have HW := Lib.hid (Weekday_in d h0 h1)
    by_cases h5 : 5 ≤ d % 7
    · have HB := Lib.hid (bus_end (h := zs) h5)
      have hd : decide (d % 7 < 5) = false := by simp; omega
      clear ho h h5
      go_enter Tryd.func35, Tryd.ntmps35
      go_wp2_with fail
      refine (HV.out _).mono ?_; rintro e w' ⟨rfl, rfl⟩
      go_wp2_with fail
      refine (HW.out _).mono ?_; rintro e w' ⟨rfl, rfl⟩
      go_wp2_with fail
      go_ret
      exact ⟨ret_boolc HB.out.symm, rfl⟩
    · have hb := bus_in (h := zs) h0 h1 (by omega)
      have hd : decide (d % 7 < 5) = true := by simp; omega
      obtain ⟨q, hq⟩ : ∃ q, zs.contains d = q := ⟨_, rfl⟩
      have hcon : Calls Tryd.prog 57 #[.slice ao zs.length cap, .int .i64 d] w fun e w' => e = .returned (.bool q) ∧ w' = w := by
        rcases h.2.2.2 with ⟨rfl, _⟩ | ⟨b, o, rfl, hc⟩
        · have := Tryd.slices_Contains_int_empty ao cap d w
          rw [← hq]
          exact this
        · have := Tryd.slices_Contains_int b o zs.length cap zs d w (Nat.le_refl _) (by have := h.1; have := h.2.1; omega) hc
          rw [List.take_length, hq] at this
          exact this
      rw [hq] at hb
      have HB := Lib.hid hb
      have HC := Lib.hid hcon
      clear ho h h5 hb hq hcon
      cases q
      all_goals
        go_enter Tryd.func35, Tryd.ntmps35
        go_wp2_with fail
        refine (HV.out _).mono ?_; rintro e w' ⟨rfl, rfl⟩
        go_wp2_with fail
        refine (HW.out _).mono ?_; rintro e w' ⟨rfl, rfl⟩
        go_wp2_with fail
        refine HC.out.mono ?_; rintro e w' ⟨rfl, rfl⟩
        go_wp2_with fail
        go_ret
        exact ⟨ret_boolc HB.out.symm, rfl⟩

theorem contains_cut {zs : List Int} {i : Nat} {d : Int} (hi : i < zs.length) (h : (zs.take i).contains d = false) (hx : (zs.getD i 0 == d) = false) : (zs.take (i + 1)).contains d = false := by
  rw [List.take_succ_eq_append_getElem hi]
  have e : zs[i] = zs.getD i 0 := by simp [List.getD, hi]
  rw [e]
  simp at h hx ⊢
  exact ⟨h, fun e => hx e.symm⟩
theorem contains_hit {zs : List Int} {i : Nat} {d : Int} (hi : i < zs.length) (hx : zs.getD i 0 = d) : zs.contains d = true := by
  have e : zs[i] = zs.getD i 0 := by simp [List.getD, hi]
  simp
  rw [← hx, ← e]
  exact List.getElem_mem hi

set_option maxHeartbeats 4000000 in
theorem rBusiness_v (d : Int) (ao : Option Addr) (cap : Nat) (zs : List Int) (w : World) (h : RdI w ao cap zs) :
    Calls Tryd.prog 36 #[.int .i64 d, .slice ao zs.length cap] w fun e w' => e = .returned (.bool (bus zs d)) ∧ w = w' := by
  by_cases ho : d < 0 ∨ 182620 < d
  · have HB := Lib.hid (bus_off (h := zs) ho)
    clear h
    rcases ho with ho | ho
    all_goals
      go_enter Tryd.func36, Tryd.ntmps36
      go_wp2_with fail
      go_ret
      exact ⟨ret_boolc HB.out.symm, rfl⟩
  · have h0 : 0 ≤ d := by omega
    have h1 : d < 182621 := by omega
    by_cases h5 : 5 ≤ d % 7
    · have HB := Lib.hid (bus_end (h := zs) h5)
      clear ho h
      go_enter Tryd.func36, Tryd.ntmps36
      go_wp2_with fail
      go_ret
      exact ⟨ret_boolc HB.out.symm, rfl⟩
    · have hb := bus_in (h := zs) h0 (by omega) (by omega : d % 7 < 5)
      have HB := Lib.hid hb
      have h6 : ¬ 5 ≤ d % 7 := h5
      obtain ⟨n, hn⟩ : ∃ n, n = zs.length := ⟨_, rfl⟩
      have hnb : n ≤ 9223372036854775807 := by have := h.1; have := h.2.1; omega
      have HN := Lib.hid hn
      have HR := Lib.hid h
      rw [← hn]
      clear ho h hb h5 hn
      go_enter Tryd.func36, Tryd.ntmps36
      go_wp2_with fail
      go_loop [20] (fun s20 => ∃ i : Nat, i ≤ n ∧ s20 = .int .i64 (i : Int) ∧ Hid ((zs.take i).contains d = false)) (fun s20 => n - (intOf s20).toNat)
      case atStart => exact ⟨0, by omega, rfl, by unfold Hid; rfl⟩
      case round =>
        obtain ⟨i, hi, rfl, hc⟩ := hrel
        by_cases hlt : i < n
        · have hlz : i < zs.length := by rw [← HN.out]; exact hlt
          obtain ⟨b, o, rfl, hcell⟩ : ∃ b o, ao = some ⟨b, o, none⟩ ∧ w.cell? ⟨b, o + i, none⟩ = some (.int .i64 (zs.getD i 0)) := by
            rcases HR.out.2.2.2 with ⟨e, _⟩ | ⟨b, o, e, hh⟩
            · rw [e] at hlz; simp at hlz
            · exact ⟨b, o, e, hh i hlz⟩
          obtain ⟨x, hx⟩ : ∃ x, zs.getD i 0 = x := ⟨_, rfl⟩
          rw [hx] at hcell
          cases hxd : (x == d)
          · have hc2 : Hid ((zs.take (i + 1)).contains d = false) := contains_cut hlz hc.out (by rw [hx]; exact hxd)
            have HX := Lib.hid hx
            clear hx hc hlz
            go_wp2_with fail
            go_round
            case rel => exact ⟨i + 1, by omega, by go_num, hc2⟩
            case measure => simp [intOf]; omega
          · have hb2 : Hid (bus zs d = false) := by unfold Hid; rw [HB.out, contains_hit hlz (by rw [hx]; simpa using hxd)]; rfl
            clear hx hc hlz
            go_wp2_with fail
            go_ret
            exact ⟨ret_boolc hb2.out.symm, rfl⟩
        · obtain rfl : i = n := by omega
          have hb2 : Hid (bus zs d = true) := by
            unfold Hid
            have := hc.out
            rw [HN.out, List.take_length] at this
            rw [HB.out, this]; rfl
          clear hc
          go_wp2_with fail
          go_ret
          exact ⟨ret_boolc hb2.out.symm, rfl⟩
end Go.Proofs.YtffnmejabphabaaDoor
