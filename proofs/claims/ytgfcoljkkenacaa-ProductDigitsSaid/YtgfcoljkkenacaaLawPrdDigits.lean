import Derived.Test.YtgfcoljkkenacaaPrd1
/- ProductDigits: the walk. -/
namespace Go.Proofs.Ytgfcoljkkenacaa.P9
open Go.RowKit Go.Sort C6

set_option maxHeartbeats 4000000 in
set_option maxRecDepth 100000 in
theorem ProductDigits_any (s : ByteArray) (w : World) (hs : s.size ≤ 9223372036854775807) :
    Calls Try.prog 3 #[.string s] w fun e w' => e = .returned (.bool true) ∧ Below w.heap.size w w' := by
  obtain ⟨m, hm⟩ : ∃ m : Nat, min (s.size : Int) 20 = (m : Int) := ⟨(min (s.size : Int) 20).toNat, by omega⟩
  have hms : m ≤ s.size := by omega
  have hmI : (m : Int) ≤ (s.size : Int) := by omega
  have hT : (s.extract 0 m).size ≤ 1000 := by rw [ByteArray.size_extract]; omega
  have C1 : Hid (∀ w, Calls Try.prog 9 #[.string (s.extract 0 m)] w fun e w' => e = .returned (.tuple #[.int .i64 ((ck (s.extract 0 m).data.toList : Nat) : Int), .bool (ckOk (s.extract 0 m).data.toList)]) ∧ Below w.heap.size w w') := fun w => CheckDigit_v _ hT w
  have C2 : Hid (∀ w, Calls Try.prog 10 #[.string (s.extract 0 m)] w fun e w' => e = .returned (.tuple #[.int .i64 ((ck (s.extract 0 m).data.toList : Nat) : Int), .bool (ckOk (s.extract 0 m).data.toList)]) ∧ Below w.heap.size w w') := fun w => rCheckDigit_v _ w
  have C3 : Hid (∀ w, Calls Try.prog 11 #[.string (s.extract 0 m)] w fun e w' => e = .returned (.bool (vid (s.extract 0 m).data.toList)) ∧ Below w.heap.size w w') := fun w => ValidID_v _ hT w
  have C4 : Hid (∀ w, Calls Try.prog 12 #[.string (s.extract 0 m)] w fun e w' => e = .returned (.bool (vid (s.extract 0 m).data.toList)) ∧ Below w.heap.size w w') := fun w => rValidID_v _ w
  obtain ⟨d, hd⟩ : ∃ d : Nat, d = ck (s.extract 0 m).data.toList := ⟨_, rfl⟩
  obtain ⟨o, ho⟩ : ∃ o, o = ckOk (s.extract 0 m).data.toList := ⟨_, rfl⟩
  obtain ⟨v, hv⟩ : ∃ v, v = vid (s.extract 0 m).data.toList := ⟨_, rfl⟩
  rw [← hd, ← ho] at C1 C2
  rw [← hv] at C3 C4
  clear hT hd ho hv
  go_enter Try.func3, Try.ntmps3
  go_wp2_with fail
  refine (C1.out _).mono ?_; rintro e w1 ⟨rfl, b1⟩
  have B1 := Lib.hid b1
  clear b1
  go_wp2_with fail
  refine (C2.out _).mono ?_; rintro e w2 ⟨rfl, b2⟩
  have B2 := Lib.hid (keep B1.out b2)
  clear b2
  go_wp2_with fail
  refine (C3.out _).mono ?_; rintro e w3 ⟨rfl, b3⟩
  have B3 := Lib.hid (keep B2.out b3)
  clear b3
  go_wp2_with fail
  refine (C4.out _).mono ?_; rintro e w4 ⟨rfl, b4⟩
  have B4 := Lib.hid (keep B3.out b4)
  clear b4
  go_wp2_with fail
  refine (awake_v _).mono ?_; rintro e w5 ⟨rfl, b5⟩
  have B5 := Lib.hid (keep B4.out b5)
  clear b5
  go_wp2_with fail
  go_ret
  exact ⟨rfl, B5.out⟩
end Go.Proofs.Ytgfcoljkkenacaa.P9
