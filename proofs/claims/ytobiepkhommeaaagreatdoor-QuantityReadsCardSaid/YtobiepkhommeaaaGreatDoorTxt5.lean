import Derived.Test.YtobiepkhommeaaaGreatDoorTxts
/- Contract of the reference's Parse. -/
namespace Go.Proofs.YtobiepkhommeaaaGreatDoor
open Go.RowKit

theorem good_of {s : ByteArray} (h0 : 0 < s.size) (hd : Digs s.data.toList) (h : s[0].toNat ≠ 48 ∨ s.size = 1) : Good s.data.toList := by
  have hh := head_byte s h0
  refine ⟨hd, fun e => ?_, ?_⟩
  · rw [e] at hh; simp at hh
  · by_cases hc : s[0] = 48
    · rcases h with h | h
      · exact absurd (by rw [hc]; rfl) h
      · left
        have hl : s.data.toList.length = 1 := by rw [size_list]; exact h
        match hm : s.data.toList, hl with
        | [x], _ => rw [hm] at hh; simp at hh; rw [hh, hc]
    · right; rw [hh]; intro e; exact hc (Option.some.inj e)
theorem bad_zero {s : ByteArray} (h0 : 1 < s.size) (h : s[0].toNat = 48) : ¬ Good s.data.toList := by
  intro g
  have hh := head_byte s (by omega)
  have hc : s[0] = 48 := UInt8.toNat.inj h
  rcases g.2.2 with e | e
  · have := congrArg List.length e; rw [size_list] at this; simp at this; omega
  · rw [hh, hc] at e; exact e rfl

set_option maxHeartbeats 2000000 in
set_option maxRecDepth 100000 in
theorem rParse_loop (s : ByteArray) (w : World) (hs : s.size ≤ 9223372036854775807) (h0 : 0 < s.size) (h : s[0].toNat ≠ 48 ∨ s.size = 1) :
    Calls Tryz.prog 79 #[.string s] w (PowPost (txtWhy s.data.toList) (txtRes s.data.toList) w) := by
  have HGO := Lib.hid (fun hd => good_of h0 hd h)
  have hz : ((s.size : Int) == 0) = false := beq_eq_false_iff_ne.2 (by omega)
  obtain ⟨c, hc⟩ : ∃ c, s[0].toNat = c := ⟨_, rfl⟩
  have hcase : (((c : Int) == 48) = false) ∨ (((c : Int) == 48) = true ∧ ¬ (1 : Int) < (s.size : Int)) := by
    rcases h with h | h
    · left; exact beq_eq_false_iff_ne.2 (by omega)
    · by_cases e : c = 48
      · right; exact ⟨beq_iff_eq.2 (by omega), by omega⟩
      · left; exact beq_eq_false_iff_ne.2 (by omega)
  clear h
  rcases hcase with hb | ⟨hb, hn⟩
  all_goals
    go_enter Tryz.func79, Tryz.ntmps79
    go_wp2_with fail
    clear hc
    go_loop [20] (fun s20 => ∃ k : Nat, k ≤ s.size ∧ s20 = .int .i64 k ∧ Hid (Digs (s.data.toList.take k))) (fun s20 => s.size - (intOf s20).toNat)
    case atStart => exact ⟨0, Nat.zero_le _, rfl, fun c hc => by simp at hc⟩
    case round =>
      obtain ⟨k, hk, rfl, hd⟩ := hrel
      by_cases hlt : k < s.size
      · have hbl : k < s.data.toList.length := by rw [size_list]; exact hlt
        by_cases hdig : isd s[k]
        · have hnew : Hid (Digs (s.data.toList.take (k + 1))) := by
            show Digs _; rw [take_snoc s k hlt]; intro c hc
            rcases List.mem_append.1 hc with h | h
            · exact hd.out c h
            · rw [List.mem_singleton] at h; subst h; exact hdig
          unfold isd at hdig
          obtain ⟨x, hx⟩ : ∃ c, s[k].toNat = c := ⟨_, rfl⟩
          rw [hx] at hdig
          have h1 : ¬ (x : Int) < 48 := by omega
          have h2 : ¬ (57 : Int) < (x : Int) := by omega
          clear hdig
          go_wp2
          go_round
          case rel => exact ⟨k + 1, by omega, by go_num, hnew⟩
          case measure => simp [intOf]; omega
        · have hbad := not_good_digit hbl (by rw [byte_get s k hlt]; exact hdig)
          obtain ⟨e1, e2⟩ := txt_bad hbad
          have E1 := Lib.hid e1
          have E2 := Lib.hid e2
          unfold isd at hdig
          obtain ⟨x, hx⟩ : ∃ c, s[k].toNat = c := ⟨_, rfl⟩
          rw [hx] at hdig
          by_cases h1 : (x : Int) < 48
          · clear hdig hbad e1 e2
            go_wp2
            go_ret2
            rw [E1.out, E2.out]
            exact PowPost.err
          · have h2 : (57 : Int) < (x : Int) := by omega
            clear hdig hbad e1 e2
            go_wp2
            go_ret2
            rw [E1.out, E2.out]
            exact PowPost.err
      · have hall : Digs s.data.toList := by
          have := hd.out; rwa [List.take_of_length_le (by rw [size_list]; omega)] at this
        have hgood := HGO.out hall
        rcases Nat.lt_or_ge 4096 s.size with hl | hl
        · obtain ⟨e1, e2⟩ := txt_long hgood (by rw [size_list]; exact hl)
          have E1 := Lib.hid e1
          have E2 := Lib.hid e2
          clear e1 e2 hgood hall
          go_wp2_with fail
          all_goals
            go_ret2
            rw [E1.out, E2.out]
            exact PowPost.err
        · obtain ⟨e1, e2⟩ := txt_fine hgood (by rw [size_list]; exact hl)
          have E1 := Lib.hid e1
          have E2 := Lib.hid e2
          have HA := Lib.hid hall
          clear e1 e2 hgood hall
          go_wp2_with fail
          refine (Digits_any s _ hl HA.out).mono ?_; rintro e w1 ⟨a1, c1, rfl, f1, b1⟩
          go_wp2_with fail
          go_ret2
          rw [E1.out, E2.out]
          exact PowPost.made f1 b1

set_option maxHeartbeats 1000000 in
set_option maxRecDepth 100000 in
theorem rParse_any (s : ByteArray) (w : World) (hs : s.size ≤ 9223372036854775807) :
    Calls Tryz.prog 79 #[.string s] w (PowPost (txtWhy s.data.toList) (txtRes s.data.toList) w) := by
  rcases Nat.eq_zero_or_pos s.size with h0 | h0
  · obtain ⟨e1, e2⟩ := txt_bad (l := s.data.toList) (fun g => g.2.1 (List.eq_nil_of_length_eq_zero (by rw [size_list]; exact h0)))
    rw [e1, e2]
    have hz : ((s.size : Int) == 0) = true := beq_iff_eq.2 (by omega)
    clear e1 e2 h0
    go_enter Tryz.func79, Tryz.ntmps79
    go_wp2_with fail
    go_ret2
    exact PowPost.err
  · by_cases h : s[0].toNat ≠ 48 ∨ s.size = 1
    · exact rParse_loop s w hs h0 h
    · have h1 : s[0].toNat = 48 := Classical.not_not.1 (fun e => h (.inl e))
      have h2 : 1 < s.size := by have : s.size ≠ 1 := fun e => h (.inr e); omega
      obtain ⟨e1, e2⟩ := txt_bad (bad_zero h2 h1)
      rw [e1, e2]
      have hz : ((s.size : Int) == 0) = false := beq_eq_false_iff_ne.2 (by omega)
      have h2i : (1 : Int) < (s.size : Int) := by omega
      clear e1 e2 h
      go_enter Tryz.func79, Tryz.ntmps79
      go_wp2_with fail
      go_ret2
      exact PowPost.err
end Go.Proofs.YtobiepkhommeaaaGreatDoor
