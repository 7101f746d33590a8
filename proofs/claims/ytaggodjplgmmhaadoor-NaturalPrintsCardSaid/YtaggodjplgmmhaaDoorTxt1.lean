/- Contracts of package natural: groups of digits; whether a text is a decimal number. -/
import Derived.Test.YtaggodjplgmmhaaDoorTxtM
import Derived.Test.YtaggodjplgmmhaaDoorPow2
namespace Go.Proofs.YtaggodjplgmmhaaDoor
open Go.RowKit

theorem ret_w64 {a b : Int} (h : a = b) : Ending.returned (.int .u64 a) = .returned (.int .u64 b) := by rw [h]
theorem take_snoc (s : ByteArray) (k : Nat) (h : k < s.size) : s.data.toList.take (k + 1) = s.data.toList.take k ++ [s[k]] := by
  rw [List.take_succ_eq_append_getElem (by simpa using h)]; rfl
theorem byte_get (s : ByteArray) (k : Nat) (h : k < s.size) : s.data.toList[k]'(by simpa using h) = s[k] := rfl
theorem size_list (s : ByteArray) : s.data.toList.length = s.size := by simp

set_option maxHeartbeats 400000 in
set_option maxRecDepth 100000 in
theorem groupValue_any (s : ByteArray) (w : World) (hs : s.size ≤ 9) (hd : Digs s.data.toList) :
    Calls Tryd.prog 56 #[.string s] w fun e w' => e = .returned (.int .u64 ((dv 0 s.data.toList : Nat) : Int)) ∧ w = w' := by
  have HD := Lib.hid hd
  clear hd
  go_enter Tryd.func56, Tryd.ntmps56
  go_wp2
  go_loop [3, 7] (fun s3 s7 => ∃ k v : Nat, k ≤ s.size ∧ s7 = .int .i64 k ∧ s3 = .int .u64 v ∧ Hid (v = dv 0 (s.data.toList.take k)) ∧ v < 1000000000) (fun _ s7 => s.size - (intOf s7).toNat)
  case atStart => exact ⟨0, 0, Nat.zero_le _, rfl, rfl, rfl, by omega⟩
  case round =>
    obtain ⟨k, v, hk, rfl, rfl, hv, hvb⟩ := hrel
    by_cases hlt : k < s.size
    · have hc2 := HD.out.get k (by rw [size_list]; exact hlt)
      rw [byte_get s k hlt] at hc2
      have hlen : (s.data.toList.take (k + 1)).length ≤ 9 := by rw [List.length_take, size_list]; omega
      have hlt2 := dv_lt (HD.out.take (k + 1))
      have hp : 10 ^ (s.data.toList.take (k + 1)).length ≤ 10 ^ 9 := Nat.pow_le_pow_right (by omega) hlen
      rw [take_snoc s k hlt] at hlt2 hp
      rw [dv_snoc] at hlt2
      rw [← hv.out] at hlt2
      have hnew : Hid (v * 10 + (s[k].toNat - 48) = dv 0 (s.data.toList.take (k + 1))) := by
        show _ = _; rw [take_snoc s k hlt, dv_snoc, ← hv.out]
      obtain ⟨c, hc⟩ : ∃ c, s[k].toNat = c := ⟨_, rfl⟩
      rw [hc] at hc2 hlt2 hnew
      have hb : v * 10 + (c - 48) < 1000000000 := by have e : (10 : Nat) ^ 9 = 1000000000 := by decide
                                                     omega
      have hc3 := hc2.1
      have hc4 := hc2.2
      clear hc2 hlen hlt2 hp
      go_wp2
      go_round
      case rel => exact ⟨k + 1, v * 10 + (c - 48), by omega, by go_num, by go_num, hnew, hb⟩
      case measure => simp [intOf]; omega
    · have e : Hid (v = dv 0 s.data.toList) := by
        show _ = _; rw [hv.out, List.take_of_length_le (by rw [size_list]; omega)]
      go_wp2
      go_ret
      exact ⟨ret_w64 (by rw [← e.out]), rfl⟩
end Go.Proofs.YtaggodjplgmmhaaDoor
