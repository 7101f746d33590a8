import Derived.Test.YtkedgkfdmdlhoaaDoorPrdM
import Derived.Test.YtkedgkfdmdlhoaaDoorCls0
import Derived.Deep.CutBlock
/- Package product and its reference: check digits, IDs. -/
namespace Go.Proofs.YtkedgkfdmdlhoaaDoor.P9
open Go.RowKit Go.Sort C6

theorem lsz (s : ByteArray) : s.data.toList.length = s.size := Array.length_toList
theorem byte_get {s : ByteArray} {i : Nat} (h : i < s.size) : s.data.toList.getD i 0 = s[i]'h := by
  have h' : i < s.data.toList.length := by rw [lsz]; exact h
  rw [List.getD, List.getElem?_eq_getElem h', Option.getD_some]
  rfl
theorem dgt_k {b : UInt8} {k : Nat} (h : b.toNat = k) : dgt b = (decide (48 ≤ k) && decide (k ≤ 57)) := by
  unfold dgt; rw [h, Bool.decide_and]
theorem ret_ib {a b : Int} {x y : Bool} (h : a = b) (k : x = y) : Ending.returned (.tuple #[.int .i64 a, .bool x]) = .returned (.tuple #[.int .i64 b, .bool y]) := by rw [h, k]

theorem of_row_n {w : World} {base n size : Nat} {e : TypeId} {v : Value} {xs : List Value} (h : w.ownsRow base e size v n xs) : ∃ ao cap, v = .slice ao n cap := by
  rcases h.2 with ⟨rfl, rfl⟩ | ⟨g, cap, cur, rfl, _⟩
  · exact ⟨none, 0, rfl⟩
  · exact ⟨_, cap, rfl⟩
theorem isDigit_v (k : Nat) (w : World) : Calls Tryd.prog 35 #[.int .u8 (k : Int)] w fun e w' => e = .returned (.bool (decide (48 ≤ k) && decide (k ≤ 57))) ∧ Below w.heap.size w w' := by
  have HB := Lib.hid (Below.refl w.heap.size w)
  have e2 : Hid (decide ((k : Int) ≤ 57) = decide (k ≤ 57)) := decide_eq_decide.2 (by omega)
  by_cases h1 : 48 ≤ k
  · go_enter Tryd.func35, Tryd.ntmps35
    go_wp2_with fail
    go_ret
    exact ⟨ret_bool (by rw [e2.out]; simp [h1]), HB.out⟩
  · go_enter Tryd.func35, Tryd.ntmps35
    go_wp2_with fail
    go_ret
    exact ⟨ret_bool (by first | rfl | simp | simp [h1]), HB.out⟩

/-- the end of both functions: the digit out of the sum -/
theorem ck_end (S : Nat) : ∃ a b c : Nat, Int.tmod (S : Int) 10 = (a : Int) ∧ 10 - (a : Int) = (b : Int) ∧ Int.tmod (b : Int) 10 = (c : Int) ∧ Hid (c = (10 - S % 10) % 10) ∧ a < 10 ∧ b ≤ 10 ∧ c < 10 := by
  refine ⟨S % 10, 10 - S % 10, (10 - S % 10) % 10, ?_, by omega, ?_, rfl, by omega, by omega, by omega⟩
  · rw [Int.tmod_eq_emod_of_nonneg (by omega)]; omega
  · rw [Int.tmod_eq_emod_of_nonneg (by omega)]; omega

set_option maxHeartbeats 8000000 in
set_option maxRecDepth 100000 in
theorem CheckDigit_v (s : ByteArray) (hs : s.size ≤ 1000) (w : World) :
    Calls Tryd.prog 30 #[.string s] w fun e w' => e = .returned (.tuple #[.int .i64 ((ck s.data.toList : Nat) : Int), .bool (ckOk s.data.toList)]) ∧ Below w.heap.size w w' := by
  by_cases h : s.size = 7 ∨ s.size = 12
  · have HBad : Hid (∀ i, i < s.size → dgt (s.data.toList.getD i 0) = false → Ending.returned (.tuple #[.int .i64 0, .bool false]) = .returned (.tuple #[.int .i64 ((ck s.data.toList : Nat) : Int), .bool (ckOk s.data.toList)])) := fun i hi hb => by
      have := ckOk_bad (l := s.data.toList) (by rw [lsz]; exact hi) hb
      rw [this, ck_bad this]; rfl
    have HEnd : Hid (∀ c : Nat, c = (10 - ws s.data.toList % 10) % 10 → s.data.toList.all dgt = true → Ending.returned (.tuple #[.int .i64 (c : Int), .bool true]) = .returned (.tuple #[.int .i64 ((ck s.data.toList : Nat) : Int), .bool (ckOk s.data.toList)])) := fun c hc hd => by
      have := ckOk_mk (l := s.data.toList) (by rw [lsz]; exact h) hd
      rw [this, ck_good this, hc]
    have HL : Hid (s.data.toList.length = s.size) := lsz s
    have go : ∀ n : Nat, s.size = n → n ≤ 12 → 1 ≤ n → (((n : Int) != 7) = false ∨ (((n : Int) != 7) = true ∧ ((n : Int) != 12) = false)) → Calls Tryd.prog 30 #[.string s] w fun e w' => e = .returned (.tuple #[.int .i64 ((ck s.data.toList : Nat) : Int), .bool (ckOk s.data.toList)]) ∧ Below w.heap.size w w' := by
      intro n hn hn12 hn1 hcs
      obtain ⟨p, hp⟩ : ∃ p, n = p + 1 := ⟨n - 1, by omega⟩
      have hp1 : (n : Int) - 1 = (p : Int) := by omega
      have HP := Lib.hid hp
      have HN := Lib.hid hn
      clear h hs hp
      have rest : Hid (∀ i, i < n → ∃ (hi : i < s.size) (k : Nat), (s[i]'hi).toNat = k ∧ k ≤ 255 ∧ Hid (s.data.toList.getD i 0 = s[i]'hi)) := fun i hi => ⟨by rw [hn]; exact hi, _, rfl, by have := (s[i]'(by rw [hn]; exact hi)).toNat_lt; omega, byte_get _⟩
      rcases hcs with h7 | ⟨h7, h12⟩
      all_goals
        go_enter Tryd.func30, Tryd.ntmps30
        go_wp2_with fail
        go_loopw [4, 5, 6] (fun s4 s5 s6 wr => ∃ (j S W : Nat) (z : Int), j ≤ n ∧ s4 = .int .i64 (S : Int) ∧ s5 = .int .i64 (W : Int) ∧ s6 = .int .i64 z ∧ z = (j : Int) - 1 ∧ S ≤ 27 * (n - j) ∧ 1 ≤ W ∧ W ≤ 3 ∧ Hid (S = ws (s.data.toList.drop j) ∧ W = wt (n - j) ∧ (s.data.toList.drop j).all dgt = true) ∧ Hid (Below w.heap.size w wr)) (fun _ _ s6 _ => (intOf s6 + 1).toNat)
        case atStart => exact ⟨n, 0, 3, _, Nat.le_refl _, rfl, rfl, rfl, by have := HP.out; omega, by omega, by omega, by omega, by
          have : s.data.toList.drop n = [] := List.drop_eq_nil_of_le (by rw [HL.out, HN.out]; exact Nat.le_refl _)
          unfold Hid; rw [this]; simp [ws, wt], Below.refl _ _⟩
        case round =>
          obtain ⟨j, S, W, z, hj, rfl, rfl, rfl, hz, hS, hW1, hW3, hinv, hbl⟩ := hrel
          cases j with
          | zero =>
            obtain rfl : z = -1 := by omega
            obtain ⟨a, b, c, e1, e2, e3, hc, ha, hb, hc9⟩ := ck_end S
            have HX := HEnd.out c (by rw [hc.out, hinv.out.1]; rfl) (by have := hinv.out.2.2; rwa [List.drop_zero] at this)
            have HX2 := Lib.hid HX
            clear hc hinv HX hz
            go_wp2_with fail
            go_ret2
            exact ⟨HX2.out, hbl.out⟩
          | succ i =>
            obtain rfl : z = (i : Int) := by omega
            obtain ⟨hi, k, hk, hk255, hg⟩ := rest.out i (by omega)
            have hD := dgt_k hk
            have hz2 : (i : Int) < (n : Int) := by omega
            have hin : i < n := by omega
            by_cases hd : 48 ≤ k ∧ k ≤ 57
            · have hdk : (decide (48 ≤ k) && decide (k ≤ 57)) = true := by simp; exact hd
              have D1 : Hid (∀ w, Calls Tryd.prog 35 #[.int .u8 (k : Int)] w fun e w' => e = .returned (.bool true) ∧ Below w.heap.size w w') := fun w => by have := isDigit_v k w; rwa [hdk] at this
              obtain ⟨v, hv⟩ : ∃ v : Nat, (k : Int) - 48 = (v : Int) := ⟨k - 48, by omega⟩
              obtain ⟨m, hm⟩ : ∃ m : Nat, (W : Int) * (v : Int) = (m : Int) := ⟨W * v, by simp⟩
              have hv9 : v ≤ 9 := by omega
              have hm27 : m ≤ 27 := by
                have e : m = W * v := by have := hm; rw [← Int.natCast_mul] at this; omega
                have := Nat.mul_le_mul hW3 hv9
                omega
              obtain ⟨S2, hS2⟩ : ∃ S2 : Nat, (S : Int) + (m : Int) = (S2 : Int) := ⟨S + m, by omega⟩
              have hS2b : S2 ≤ 27 * (n - i) := by omega
              obtain ⟨W2, hW2⟩ : ∃ W2 : Nat, (4 : Int) - (W : Int) = (W2 : Int) := ⟨4 - W, by omega⟩
              have hvw : IntKind.u8.wrap (v : Int) = (v : Int) := by rw [IntKind.wrap_u8]; omega
              have HI2 : Hid (S2 = ws (s.data.toList.drop i) ∧ W2 = wt (n - i) ∧ (s.data.toList.drop i).all dgt = true) := by
                obtain ⟨g1, g2, g3⟩ := hinv.out
                have hil : i < s.data.toList.length := by rw [HL.out, HN.out]; exact hin
                have hdv : dv (s.data.toList.getD i 0) = v := by unfold dv; rw [hg.out, hk]; omega
                have hms : m = W * v := by have := hm; rw [← Int.natCast_mul] at this; omega
                refine ⟨?_, ?_, all_drop hil ?_ g3⟩
                · rw [ws_drop _ i hil, hdv, HL.out, HN.out, ← g1, ← g2, ← hms]; omega
                · have : n - i = n - (i + 1) + 1 := by omega
                  rw [this, wt_next, ← g2]; omega
                · rw [hg.out, hD, hdk]
              have h1 : 48 ≤ k := hd.1
              have hW21 : 1 ≤ W2 := by omega
              have hW23 : W2 ≤ 3 := by omega
              clear hinv hg hD hd hdk hj hz
              go_wp2_with fail
              refine (D1.out _).mono ?_; rintro e w1 ⟨rfl, b1⟩
              have HB1 := Lib.hid (hbl.out.trans (b1.mono hbl.out.size))
              clear b1
              go_wp2_with fail
              go_roundw
              case rel => exact ⟨i, S2, W2, _, by omega, by go_num, by go_num, rfl, by omega, hS2b, hW21, hW23, HI2, HB1⟩
              case measure => first | (simp [intOf]; done) | (simp [intOf]; omega)
            · have hdk : (decide (48 ≤ k) && decide (k ≤ 57)) = false := by simp; omega
              have D1 : Hid (∀ w, Calls Tryd.prog 35 #[.int .u8 (k : Int)] w fun e w' => e = .returned (.bool false) ∧ Below w.heap.size w w') := fun w => by have := isDigit_v k w; rwa [hdk] at this
              have HX := HBad.out i hi (by rw [hg.out, hD, hdk])
              have HX2 := Lib.hid HX
              clear hinv hg hD hd hdk hj hz HX
              go_wp2_with fail
              refine (D1.out _).mono ?_; rintro e w1 ⟨rfl, b1⟩
              have HB1 := Lib.hid (hbl.out.trans (b1.mono hbl.out.size))
              clear b1
              go_wp2_with fail
              go_ret2
              exact ⟨HX2.out, HB1.out⟩
    rcases h with h | h
    · exact go 7 h (by omega) (by omega) (.inl rfl)
    · exact go 12 h (by omega) (by omega) (.inr ⟨rfl, rfl⟩)
  · have hb : ckOk s.data.toList = false := ckOk_not (by rw [lsz]; exact h)
    rw [hb, ck_bad hb]
    have e1 : ((s.size : Int) != 7) = true := by rw [bne_iff_ne]; omega
    have e2 : ((s.size : Int) != 12) = true := by rw [bne_iff_ne]; omega
    have HB := Lib.hid (Below.refl w.heap.size w)
    clear h hb
    go_enter Tryd.func30, Tryd.ntmps30
    go_wp2_with fail
    go_ret2
    exact ⟨rfl, HB.out⟩

set_option maxHeartbeats 8000000 in
set_option maxRecDepth 100000 in
theorem rCheckDigit_v (s : ByteArray) (w : World) :
    Calls Tryd.prog 31 #[.string s] w fun e w' => e = .returned (.tuple #[.int .i64 ((ck s.data.toList : Nat) : Int), .bool (ckOk s.data.toList)]) ∧ Below w.heap.size w w' := by
  by_cases h : s.size = 7 ∨ s.size = 12
  · have HBad : Hid (∀ i, i < s.size → dgt (s.data.toList.getD i 0) = false → Ending.returned (.tuple #[.int .i64 0, .bool false]) = .returned (.tuple #[.int .i64 ((ck s.data.toList : Nat) : Int), .bool (ckOk s.data.toList)])) := fun i hi hb => by
      have := ckOk_bad (l := s.data.toList) (by rw [lsz]; exact hi) hb
      rw [this, ck_bad this]; rfl
    have HEnd : Hid (∀ c : Nat, c = (10 - ws s.data.toList % 10) % 10 → s.data.toList.all dgt = true → Ending.returned (.tuple #[.int .i64 (c : Int), .bool true]) = .returned (.tuple #[.int .i64 ((ck s.data.toList : Nat) : Int), .bool (ckOk s.data.toList)])) := fun c hc hd => by
      have := ckOk_mk (l := s.data.toList) (by rw [lsz]; exact h) hd
      rw [this, ck_good this, hc]
    have HL : Hid (s.data.toList.length = s.size) := lsz s
    have go : ∀ n : Nat, s.size = n → n ≤ 12 → 1 ≤ n → (((n : Int) != 7) = false ∨ (((n : Int) != 7) = true ∧ ((n : Int) != 12) = false)) → Calls Tryd.prog 31 #[.string s] w fun e w' => e = .returned (.tuple #[.int .i64 ((ck s.data.toList : Nat) : Int), .bool (ckOk s.data.toList)]) ∧ Below w.heap.size w w' := by
      intro n hn hn12 hn1 hcs
      have HN := Lib.hid hn
      clear h
      have rest : Hid (∀ i, i < n → ∃ (hi : i < s.size) (k : Nat), (s[i]'hi).toNat = k ∧ k ≤ 255 ∧ Hid (s.data.toList.getD i 0 = s[i]'hi)) := fun i hi => ⟨by rw [hn]; exact hi, _, rfl, by have := (s[i]'(by rw [hn]; exact hi)).toNat_lt; omega, byte_get _⟩
      rcases hcs with h7 | ⟨h7, h12⟩
      all_goals
        go_enter Tryd.func31, Tryd.ntmps31
        go_wp2_with fail
        go_loopw [4, 17] (fun s4 s17 wr => ∃ (j S : Nat), j ≤ n ∧ s4 = .int .i64 (S : Int) ∧ s17 = .int .i64 (j : Int) ∧ S ≤ 27 * j ∧ Hid (S + ws (s.data.toList.drop j) = ws s.data.toList ∧ (s.data.toList.take j).all dgt = true) ∧ Hid (Below w.heap.size w wr)) (fun _ s17 _ => n - (intOf s17).toNat)
        case atStart => exact ⟨0, 0, by omega, rfl, rfl, by omega, by unfold Hid; simp, Below.refl _ _⟩
        case round =>
          obtain ⟨j, S, hj, rfl, rfl, hS, hinv, hbl⟩ := hrel
          by_cases hlt : j < n
          · have hlt2 : (j : Int) < (n : Int) := by omega
            obtain ⟨hi, k, hk, hk255, hg⟩ := rest.out j hlt
            have hD := dgt_k hk
            by_cases hd : 48 ≤ k ∧ k ≤ 57
            · have hdk : (decide (48 ≤ k) && decide (k ≤ 57)) = true := by simp; exact hd
              obtain ⟨v, hv⟩ : ∃ v : Nat, (k : Int) - 48 = (v : Int) := ⟨k - 48, by omega⟩
              have hv9 : v ≤ 9 := by omega
              have hvw : IntKind.u8.wrap (v : Int) = (v : Int) := by rw [IntKind.wrap_u8]; omega
              obtain ⟨d, hd2⟩ : ∃ d : Nat, (n : Int) - (j : Int) = (d : Int) := ⟨n - j, by omega⟩
              obtain ⟨o, ho⟩ : ∃ o : Nat, Int.tmod (d : Int) 2 = (o : Int) := ⟨d % 2, by rw [Int.tmod_eq_emod_of_nonneg (by omega)]; omega⟩
              have ho2 : o = d % 2 := by rw [Int.tmod_eq_emod_of_nonneg (by omega)] at ho; omega
              have h1 : 48 ≤ k := hd.1
              have h2 : k ≤ 57 := hd.2
              have hil : j < s.data.toList.length := by rw [HL.out, HN.out]; exact hlt
              have hdv : dv (s.data.toList.getD j 0) = v := by unfold dv; rw [hg.out, hk]; omega
              have step : ∀ W : Nat, W = wt (n - (j + 1)) → ∀ S2 : Nat, S2 = S + W * v → Hid (S2 + ws (s.data.toList.drop (j + 1)) = ws s.data.toList ∧ (s.data.toList.take (j + 1)).all dgt = true) := fun W hW S2 hS2 => by
                obtain ⟨g1, g2⟩ := hinv.out
                refine ⟨?_, all_take hil (by rw [hg.out, hD, hdk]) g2⟩
                rw [← g1, ws_drop _ j hil, hdv, HL.out, HN.out, hS2, hW]
                omega
              have STEP := Lib.hid step
              by_cases hodd : o = 1
              · have hb : ((o : Int) == 1) = true := by rw [hodd]; rfl
                have hW3 : Hid (3 = wt (n - (j + 1))) := by unfold Hid wt; rw [if_pos (by omega)]
                obtain ⟨m, hm⟩ : ∃ m : Nat, (3 : Int) * (v : Int) = (m : Int) := ⟨3 * v, by omega⟩
                obtain ⟨S2, hS2⟩ : ∃ S2 : Nat, (S : Int) + (m : Int) = (S2 : Int) := ⟨S + m, by omega⟩
                have HST := STEP.out 3 hW3.out S2 (by omega)
                have hS2b : S2 ≤ 27 * (j + 1) := by omega
                clear STEP step hinv hg hD hd hdk hil hdv ho2 hodd hS
                go_wp2_with fail
                go_roundw
                case rel => exact ⟨j + 1, S2, by omega, by go_num, by go_num, hS2b, HST, hbl⟩
                case measure => first | (simp [intOf]; done) | (simp [intOf]; omega)
              · have hb : ((o : Int) == 1) = false := beq_eq_false_iff_ne.2 (by omega)
                have hW3 : Hid (1 = wt (n - (j + 1))) := by unfold Hid wt; rw [if_neg (by omega)]
                obtain ⟨S2, hS2⟩ : ∃ S2 : Nat, (S : Int) + (v : Int) = (S2 : Int) := ⟨S + v, by omega⟩
                have hm : (1 : Int) * (v : Int) = (v : Int) := by omega
                have HST := STEP.out 1 hW3.out S2 (by omega)
                have hS2b : S2 ≤ 27 * (j + 1) := by omega
                clear STEP step hinv hg hD hd hdk hil hdv ho2 hodd hS
                go_wp2_with fail
                go_roundw
                case rel => exact ⟨j + 1, S2, by omega, by go_num, by go_num, hS2b, HST, hbl⟩
                case measure => first | (simp [intOf]; done) | (simp [intOf]; omega)
            · have hdk : (decide (48 ≤ k) && decide (k ≤ 57)) = false := by simp; omega
              have HX := Lib.hid (HBad.out j hi (by rw [hg.out, hD, hdk]))
              have hcase : k < 48 ∨ (48 ≤ k ∧ 57 < k) := by omega
              clear hinv hg hD hd hdk hj
              rcases hcase with h1 | ⟨h1, h2⟩
              all_goals
                go_wp2_with fail
                go_ret2
                exact ⟨HX.out, hbl.out⟩
          · obtain rfl : j = n := by omega
            have hlt2 : ¬ (j : Int) < (j : Int) := by omega
            obtain ⟨a, b, c, e1, e2, e3, hc, ha, hb, hc9⟩ := ck_end S
            have e0 : s.data.toList.drop j = [] := List.drop_eq_nil_of_le (by rw [HL.out, HN.out]; exact Nat.le_refl _)
            have e0' : s.data.toList.take j = s.data.toList := List.take_of_length_le (by rw [HL.out, HN.out]; exact Nat.le_refl _)
            have HX := HEnd.out c (by
              have h := hinv.out.1
              rw [e0] at h
              rw [hc.out, ← h]; rfl) (by have := hinv.out.2; rwa [e0'] at this)
            have HX2 := Lib.hid HX
            clear hc hinv HX e0 e0'
            go_wp2_with fail
            go_ret2
            exact ⟨HX2.out, hbl.out⟩
    rcases h with h | h
    · exact go 7 h (by omega) (by omega) (.inl rfl)
    · exact go 12 h (by omega) (by omega) (.inr ⟨rfl, rfl⟩)
  · have hb : ckOk s.data.toList = false := ckOk_not (by rw [lsz]; exact h)
    rw [hb, ck_bad hb]
    have e1 : ((s.size : Int) != 7) = true := by rw [bne_iff_ne]; omega
    have e2 : ((s.size : Int) != 12) = true := by rw [bne_iff_ne]; omega
    have HB := Lib.hid (Below.refl w.heap.size w)
    clear h hb
    go_enter Tryd.func31, Tryd.ntmps31
    go_wp2_with fail
    go_ret2
    exact ⟨rfl, HB.out⟩

theorem cut_front {s : ByteArray} {p : Nat} (h : s.size = p + 1) : (s.extract 0 p).data.toList = s.data.toList.dropLast ∧ (s.extract 0 p).size = p ∧ s.data.toList.getLastD 0 = s[p]'(by omega) := by
  have hl := lsz s
  have e1 : (s.extract 0 p).data.toList = s.data.toList.take p := by
    rw [ByteArray.data_extract]
    simp
  refine ⟨?_, ?_, ?_⟩
  · rw [e1, List.dropLast_eq_take, hl, h]
    rfl
  · rw [ByteArray.size_extract]; omega
  · have : s.data.toList[p]? = some (s[p]'(by omega)) := by
      rw [List.getElem?_eq_getElem (by rw [hl]; omega)]
      rfl
    rw [List.getLastD_eq_getLast?, List.getLast?_eq_getElem?, hl, show s.size - 1 = p by omega, this]
    rfl
theorem vid_val {s : ByteArray} {p k : Nat} (h : s.size = p + 1) (hk : (s[p]'(by omega)).toNat = k) : vid s.data.toList = (ckOk s.data.toList.dropLast && decide (k = 48 + ck s.data.toList.dropLast)) := by
  unfold vid
  rw [(cut_front h).2.2, hk, List.length_dropLast, lsz]
  congr 1
  simp
  omega

set_option maxHeartbeats 8000000 in
set_option maxRecDepth 100000 in
theorem ValidID_v (s : ByteArray) (hs : s.size ≤ 1000) (w : World) :
    Calls Tryd.prog 21 #[.string s] w fun e w' => e = .returned (.bool (vid s.data.toList)) ∧ Below w.heap.size w w' := by
  have HB := Lib.hid (Below.refl w.heap.size w)
  by_cases h0 : s.size = 0
  · obtain rfl : s = ByteArray.empty := ByteArray.ext (Array.eq_empty_of_size_eq_zero h0)
    have HX : Hid (false = vid ByteArray.empty.data.toList) := rfl
    clear h0 hs
    go_enter Tryd.func21, Tryd.ntmps21
    go_wp2_with fail
    go_ret
    exact ⟨ret_bool HX.out, HB.out⟩
  · obtain ⟨p, hp⟩ : ∃ p, s.size = p + 1 := ⟨s.size - 1, by omega⟩
    obtain ⟨t1, t2, t3⟩ := cut_front hp
    clear t3
    have hps : p < s.size := by omega
    obtain ⟨k, hk⟩ : ∃ k, (s[p]'hps).toNat = k := ⟨_, rfl⟩
    have hv := vid_val hp hk
    obtain ⟨l, hl⟩ : ∃ l, l = s.data.toList.dropLast := ⟨_, rfl⟩
    have C : Hid (∀ w, Calls Tryd.prog 30 #[.string (s.extract 0 p)] w fun e w' => e = .returned (.tuple #[.int .i64 ((ck l : Nat) : Int), .bool (ckOk l)]) ∧ Below w.heap.size w w') := fun w => by
      have := CheckDigit_v (s.extract 0 p) (by omega) w
      rw [t1, ← hl] at this
      exact this
    rw [hv, ← hl]
    have hc9 := ck_lt l
    have hk255 : k ≤ 255 := by rw [← hk]; have := (s[p]'hps).toNat_lt; omega
    obtain ⟨d, hd⟩ : ∃ d, d = ck l := ⟨_, rfl⟩
    obtain ⟨o, ho⟩ : ∃ o, o = ckOk l := ⟨_, rfl⟩
    rw [← hd] at C hc9 ⊢
    rw [← ho] at C ⊢
    obtain ⟨n, hn⟩ : ∃ n : Nat, (48 : Int) + (d : Int) = (n : Int) := ⟨48 + d, by omega⟩
    have hnw : IntKind.u8.wrap (n : Int) = (n : Int) := by rw [IntKind.wrap_u8]; omega
    have hne : s ≠ ByteArray.empty := by rintro rfl; simp at h0
    have hne2 : s.toList.isEmpty = false := by
      rw [ByteArray.toList_eq, List.isEmpty_eq_false_iff]
      intro e
      have := lsz s
      rw [e] at this
      exact h0 this.symm
    have hpI : (s.size : Int) - 1 = (p : Int) := by omega
    have hpsI : (p : Int) < (s.size : Int) := by omega
    have hple : (p : Int) ≤ (s.size : Int) := by omega
    have hkn : decide (k = 48 + d) = decide ((k : Int) = (n : Int)) := decide_eq_decide.2 (by omega)
    have HKN := Lib.hid hkn
    clear t1 t2 hv hl hd ho h0 hne hp hkn
    cases o
    · go_enter Tryd.func21, Tryd.ntmps21
      go_wp2_with fail
      refine (C.out _).mono ?_; rintro e w1 ⟨rfl, b1⟩
      go_wp2_with fail
      go_ret
      exact ⟨rfl, b1⟩
    · go_enter Tryd.func21, Tryd.ntmps21
      go_wp2_with fail
      refine (C.out _).mono ?_; rintro e w1 ⟨rfl, b1⟩
      go_wp2_with fail
      go_ret
      exact ⟨ret_bool (by rw [HKN.out]; first | rfl | simp), b1⟩

set_option maxHeartbeats 8000000 in
set_option maxRecDepth 100000 in
theorem rValidID_v (s : ByteArray) (w : World) :
    Calls Tryd.prog 26 #[.string s] w fun e w' => e = .returned (.bool (vid s.data.toList)) ∧ Below w.heap.size w w' := by
  have HB := Lib.hid (Below.refl w.heap.size w)
  by_cases hl : s.size = 8 ∨ s.size = 13
  · have go : ∀ n : Nat, s.size = n → n ≤ 13 → 1 ≤ n → (((n : Int) != 8) = false ∨ (((n : Int) != 8) = true ∧ ((n : Int) != 13) = false)) → Calls Tryd.prog 26 #[.string s] w fun e w' => e = .returned (.bool (vid s.data.toList)) ∧ Below w.heap.size w w' := by
      intro m hm hm13 hm1 hcs
      obtain ⟨p, hp⟩ : ∃ p, s.size = p + 1 := ⟨s.size - 1, by omega⟩
      obtain ⟨t1, t2, t3⟩ := cut_front hp
      clear t3
      have hps : p < s.size := by omega
      obtain ⟨k, hk⟩ : ∃ k, (s[p]'hps).toNat = k := ⟨_, rfl⟩
      have hv := vid_val hp hk
      obtain ⟨l, hl⟩ : ∃ l, l = s.data.toList.dropLast := ⟨_, rfl⟩
      have C : Hid (∀ w, Calls Tryd.prog 31 #[.string (s.extract 0 p)] w fun e w' => e = .returned (.tuple #[.int .i64 ((ck l : Nat) : Int), .bool (ckOk l)]) ∧ Below w.heap.size w w') := fun w => by
        have := rCheckDigit_v (s.extract 0 p) w
        rw [t1, ← hl] at this
        exact this
      rw [hv, ← hl]
      have hc9 := ck_lt l
      have hk255 : k ≤ 255 := by rw [← hk]; have := (s[p]'hps).toNat_lt; omega
      obtain ⟨d, hd⟩ : ∃ d, d = ck l := ⟨_, rfl⟩
      obtain ⟨o, ho⟩ : ∃ o, o = ckOk l := ⟨_, rfl⟩
      rw [← hd] at C hc9 ⊢
      rw [← ho] at C ⊢
      obtain ⟨n, hn⟩ : ∃ n : Nat, (48 : Int) + (d : Int) = (n : Int) := ⟨48 + d, by omega⟩
      have hnw : IntKind.u8.wrap (n : Int) = (n : Int) := by rw [IntKind.wrap_u8]; omega
      have hpI : (m : Int) - 1 = (p : Int) := by omega
      have hpm : p < m := by omega
      have hpsI : (p : Int) < (m : Int) := by omega
      have hple : (p : Int) ≤ (m : Int) := by omega
      have hkn : decide (k = 48 + d) = decide ((k : Int) = (n : Int)) := decide_eq_decide.2 (by omega)
      have HKN := Lib.hid hkn
      clear t1 t2 hv hl hd ho hp hkn
      rcases hcs with h8 | ⟨h8, h13⟩
      all_goals
        cases o
        · go_enter Tryd.func26, Tryd.ntmps26
          go_wp2_with fail
          refine (C.out _).mono ?_; rintro e w1 ⟨rfl, b1⟩
          go_wp2_with fail
          go_ret
          exact ⟨rfl, b1⟩
        · go_enter Tryd.func26, Tryd.ntmps26
          go_wp2_with fail
          refine (C.out _).mono ?_; rintro e w1 ⟨rfl, b1⟩
          go_wp2_with fail
          go_ret
          exact ⟨ret_bool (by rw [HKN.out]; first | rfl | simp), b1⟩
    rcases hl with h | h
    · exact go 8 h (by omega) (by omega) (.inl rfl)
    · exact go 13 h (by omega) (by omega) (.inr ⟨rfl, rfl⟩)
  · have e1 : ((s.size : Int) != 8) = true := by rw [bne_iff_ne]; omega
    have e2 : ((s.size : Int) != 13) = true := by rw [bne_iff_ne]; omega
    have HX : Hid (false = vid s.data.toList) := by
      unfold Hid vid
      have : ckOk s.data.toList.dropLast = false ∨ s.data.toList.length ≠ s.data.toList.dropLast.length + 1 := by
        by_cases h : s.data.toList.dropLast.length = 7 ∨ s.data.toList.dropLast.length = 12
        · refine .inr ?_
          rw [lsz]; omega
        · exact .inl (ckOk_not h)
      rcases this with h | h
      · rw [h]; rfl
      · simp only [h, false_and, decide_false, Bool.and_false]
    clear hl
    go_enter Tryd.func26, Tryd.ntmps26
    go_wp2_with fail
    go_ret
    exact ⟨ret_bool HX.out, HB.out⟩

/-- the sanity check -/
theorem awk1 : ckOk [52, 48, 48, 54, 51, 56, 49, 51, 51, 51, 57, 51] = true ∧ ck [52, 48, 48, 54, 51, 56, 49, 51, 51, 51, 57, 51] = 1 ∧ vid [57, 54, 51, 56, 53, 48, 55, 52] = true := by decide
set_option maxHeartbeats 4000000 in
set_option maxRecDepth 100000 in
theorem awake_v (w : World) : Calls Tryd.prog 10 #[] w fun e w' => e = .returned (.bool true) ∧ Below w.heap.size w w' := by
  have C1 : Hid (∀ w, Calls Tryd.prog 30 #[.string ⟨#[52, 48, 48, 54, 51, 56, 49, 51, 51, 51, 57, 51]⟩] w fun e w' => e = .returned (.tuple #[.int .i64 1, .bool true]) ∧ Below w.heap.size w w') := fun w => by
    have h := CheckDigit_v ⟨#[52, 48, 48, 54, 51, 56, 49, 51, 51, 51, 57, 51]⟩ (by decide) w
    rw [show (⟨#[52, 48, 48, 54, 51, 56, 49, 51, 51, 51, 57, 51]⟩ : ByteArray).data.toList = [52, 48, 48, 54, 51, 56, 49, 51, 51, 51, 57, 51] from rfl, awk1.1, awk1.2.1] at h
    exact h
  have C2 : Hid (∀ w, Calls Tryd.prog 21 #[.string ⟨#[57, 54, 51, 56, 53, 48, 55, 52]⟩] w fun e w' => e = .returned (.bool true) ∧ Below w.heap.size w w') := fun w => by
    have h := ValidID_v ⟨#[57, 54, 51, 56, 53, 48, 55, 52]⟩ (by decide) w
    rw [show (⟨#[57, 54, 51, 56, 53, 48, 55, 52]⟩ : ByteArray).data.toList = [57, 54, 51, 56, 53, 48, 55, 52] from rfl, awk1.2.2] at h
    exact h
  go_enter Tryd.func10, Tryd.ntmps10
  go_wp2_with fail
  refine (C1.out _).mono ?_; rintro e w1 ⟨rfl, b1⟩
  have B1 := Lib.hid b1
  clear b1
  go_wp2_with fail
  refine (C2.out _).mono ?_; rintro e w2 ⟨rfl, b2⟩
  have B2 := Lib.hid (keep B1.out b2)
  clear b2
  go_wp2_with fail
  go_ret
  exact ⟨rfl, B2.out⟩
end Go.Proofs.YtkedgkfdmdlhoaaDoor.P9
