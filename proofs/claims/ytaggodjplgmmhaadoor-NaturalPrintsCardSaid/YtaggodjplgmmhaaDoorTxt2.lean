/- Contract of natural.decimal. -/
import Derived.Test.YtaggodjplgmmhaaDoorTxt1
import Derived.Laws.Strings
namespace Go.Proofs.YtaggodjplgmmhaaDoor
open Go.RowKit

/-- what decimal tells -/
def DecPost (l : List UInt8) (w : World) (e : Ending) (w' : World) : Prop := (Good l ∧ e = .returned (.bool true) ∨ ¬ Good l ∧ e = .returned (.bool false)) ∧ w = w'
theorem not_good_digit {l : List UInt8} {k : Nat} (hk : k < l.length) (h : ¬ isd l[k]) : ¬ Good l := fun g => h (g.1 _ (List.getElem_mem hk))
theorem head_byte (s : ByteArray) (h : 0 < s.size) : s.data.toList.head? = some s[0] := by
  rw [List.head?_eq_getElem?, List.getElem?_eq_getElem (by rw [size_list]; exact h)]; rfl

set_option maxHeartbeats 800000 in
set_option maxRecDepth 100000 in
theorem decimal_any (s : ByteArray) (w : World) (hs : s.size ≤ 9223372036854775807) :
    Calls Tryd.prog 55 #[.string s] w (DecPost s.data.toList w) := by
  go_enter Tryd.func55, Tryd.ntmps55
  go_wp2
  go_loop [6] (fun s6 => ∃ k : Nat, k ≤ s.size ∧ s6 = .int .i64 k ∧ Hid (Digs (s.data.toList.take k))) (fun s6 => s.size - (intOf s6).toNat)
  case atStart => exact ⟨0, Nat.zero_le _, rfl, fun c hc => by simp at hc⟩
  case round =>
    obtain ⟨k, hk, rfl, hd⟩ := hrel
    by_cases hlt : k < s.size
    · have hbl : k < s.data.toList.length := by rw [size_list]; exact hlt
      by_cases hdig : isd s[k]
      · have hnew : Hid (Digs (s.data.toList.take (k + 1))) := by
          show Digs _; rw [take_snoc s k hlt]; intro c hc
          rcases List.mem_append.1 hc with h | h
          · exact hd.out c h
          · rw [List.mem_singleton] at h; subst h; exact hdig
        unfold isd at hdig
        obtain ⟨c, hc⟩ : ∃ c, s[k].toNat = c := ⟨_, rfl⟩
        rw [hc] at hdig
        have h1 : ¬ (c : Int) < 48 := by omega
        have h2 : ¬ (57 : Int) < (c : Int) := by omega
        clear hdig
        go_wp2
        go_round
        case rel => exact ⟨k + 1, by omega, by go_num, hnew⟩
        case measure => simp [intOf]; omega
      · have hbad : Hid (¬ Good s.data.toList) := not_good_digit hbl (by rw [byte_get s k hlt]; exact hdig)
        unfold isd at hdig
        obtain ⟨c, hc⟩ : ∃ c, s[k].toNat = c := ⟨_, rfl⟩
        rw [hc] at hdig
        by_cases h1 : (c : Int) < 48
        · clear hdig
          go_wp2
          go_ret
          exact ⟨.inr ⟨hbad.out, rfl⟩, rfl⟩
        · have h2 : (57 : Int) < (c : Int) := by omega
          clear hdig
          go_wp2
          go_ret
          exact ⟨.inr ⟨hbad.out, rfl⟩, rfl⟩
    · have hall : Hid (Digs s.data.toList) := by
        show Digs _; have := hd.out; rwa [List.take_of_length_le (by rw [size_list]; omega)] at this
      have hcap : Hid (s.toList = s.data.toList) := ByteArray.toList_eq s
      clear hd
      by_cases h1 : s.toList = [48]
      · have hg : Hid (Good s.data.toList) := by
          show Good _; rw [hcap.out] at h1; exact ⟨hall.out, by rw [h1]; simp, .inl h1⟩
        go_wp2
        go_ret
        exact ⟨.inl ⟨hg.out, rfl⟩, rfl⟩
      · by_cases h2 : s.toList = []
        · have hg : Hid (¬ Good s.data.toList) := by
            show ¬ Good _; rw [hcap.out] at h2; exact fun g => g.2.1 h2
          go_wp2
          go_ret
          exact ⟨.inr ⟨hg.out, rfl⟩, rfl⟩
        · have h3 : 0 < s.size := by
            rcases Nat.eq_zero_or_pos s.size with z | z
            · exact absurd (List.eq_nil_of_length_eq_zero (by rw [hcap.out, size_list]; exact z)) h2
            · exact z
          have hh := head_byte s h3
          have hb1 : (s.toList == [48]) = false := beq_eq_false_iff_ne.2 h1
          have hb2 : s.toList.isEmpty = false := by simpa using h2
          by_cases h4 : s[0] = 48
          · have hg : Hid (¬ Good s.data.toList) := by
              show ¬ Good _
              intro g
              rcases g.2.2 with e | e
              · exact h1 (by rw [hcap.out]; exact e)
              · rw [hh, h4] at e; exact e rfl
            have h5 : s[0].toNat = 48 := by rw [h4]; rfl
            clear hh h4
            go_wp2
            go_ret
            exact ⟨.inr ⟨hg.out, rfl⟩, rfl⟩
          · have hg : Hid (Good s.data.toList) := by
              show Good _
              exact ⟨hall.out, by rw [← hcap.out]; exact h2, .inr (by rw [hh]; intro e; exact h4 (Option.some.inj e))⟩
            have h5 : s[0].toNat ≠ 48 := fun e => h4 (UInt8.toNat.inj e)
            obtain ⟨c, hc⟩ : ∃ c, s[0].toNat = c := ⟨_, rfl⟩
            rw [hc] at h5
            have h6 : ((c : Int) != 48) = true := by rw [bne_iff_ne]; omega
            clear hh h4 h5
            go_wp2
            go_ret
            exact ⟨.inl ⟨hg.out, rfl⟩, rfl⟩
end Go.Proofs.YtaggodjplgmmhaaDoor
