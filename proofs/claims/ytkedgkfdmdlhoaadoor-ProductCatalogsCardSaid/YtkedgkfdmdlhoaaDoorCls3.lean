import Derived.Test.YtkedgkfdmdlhoaaDoorCls2
import Derived.Test.YtkedgkfdmdlhoaaDoorClsP
import Derived.Deep.CutBlock
/- The reference of package classification: Parse. -/
namespace Go.Proofs.YtkedgkfdmdlhoaaDoor.C6
open Go.RowKit Go.Sort

theorem byte_at {s : ByteArray} {j : Nat} (h : j < s.size) : s.data.toList[j]? = some (s[j]'h) := by
  rw [List.getElem?_eq_getElem (by simpa using h)]
  rfl
theorem drop_at (s : ByteArray) (a j : Nat) (h : a + j < s.size) : (s.data.toList.drop a)[j]? = some (s[a + j]'h) := by
  rw [List.getElem?_drop, byte_at h]
theorem list_size (s : ByteArray) : s.data.toList.length = s.size := Array.length_toList

theorem lead_room {s : ByteArray} {a c : Nat} (ha : a ≤ s.size) (h : ∀ j, j < c → ∃ b, (s.data.toList.drop a)[j]? = some b ∧ 48 ≤ b.toNat ∧ b.toNat ≤ 57) : a + c ≤ s.size := by
  cases c with
  | zero => omega
  | succ c =>
    obtain ⟨b, hb, _⟩ := h c (by omega)
    have := (List.getElem?_eq_some_iff.1 hb).1
    rw [List.length_drop, list_size] at this
    omega
theorem lead_99 {t : List UInt8} {n c : Nat} (h : lead t = (n, c)) : n ≤ 99 := by
  obtain ⟨hc2, hnv, hdig, _⟩ := lead_facts h
  have : c = 0 ∨ c = 1 ∨ c = 2 := by omega
  rcases this with rfl | rfl | rfl
  · have : n = 0 := hnv
    omega
  · have := lead_one h
    omega
  · have := lead_two h
    omega

/-- the same, the parts in a row of their own -/
def ParRow (s : ByteArray) (w : World) (e : Ending) (w' : World) : Prop :=
  ((∃ p v, Pts p ∧ s = txt p ∧ e = .returned (.tuple #[v, .int .i64 0]) ∧ w'.ownsRow w.heap.size 3 1 v p.length (ints p)) ∨
    ((∀ p, Pts p → s ≠ txt p) ∧ e = .returned (.tuple #[.slice none 0 0, .int .i64 60]))) ∧ Below w.heap.size w w'

set_option maxHeartbeats 16000000 in
set_option maxRecDepth 100000 in
theorem rParse_row (s : ByteArray) (hs : s.size ≤ 1000) (w : World) : Calls Tryd.prog 34 #[.string s] w (ParRow s w) := by
  obtain ⟨i0, hi, hz0, hz1, hz2⟩ := info_parts infoInt
  have HBad : Hid ((∀ p, Pts p → s ≠ txt p) → ∀ w', Below w.heap.size w w' → ParRow s w (.returned (.tuple #[.slice none 0 0, .int .i64 60])) w') := fun h w' b => ⟨.inr ⟨h, rfl⟩, b⟩
  have HListOf : Hid (∀ p, s = txt p → s.data.toList = cod p) := fun p e => by rw [e, txt_list]
  go_enter Tryd.func34, Tryd.ntmps34
  go_wp2_with fail
  go_loopw [4, 5] (fun s4 s5 wr => ∃ (a : Nat) (p : List Nat) (v4 : Value), s5 = .int .i64 (a : Int) ∧ v4 = s4 ∧ a ≤ s.size ∧ Hid (Inv s.data.toList p a) ∧ Hid (wr.ownsRow w.heap.size 3 1 v4 p.length (ints p)) ∧ Hid (Below w.heap.size w wr)) (fun _ s5 _ => s.size + 1 - (intOf s5).toNat)
  case atStart => exact ⟨0, [], _, rfl, rfl, by omega, Inv.start _, World.ownsRow_nil _ _ _ _, Below.refl _ _⟩
  case round =>
    obtain ⟨a, p, v4, rfl, rfl, ha, hinv, hown, hbl⟩ := hrel
    obtain ⟨n, c, hlead⟩ : ∃ n c, lead (s.data.toList.drop a) = (n, c) := ⟨_, _, rfl⟩
    obtain ⟨hc2, hnv, hdig, hstop⟩ := lead_facts hlead
    have HLead := Lib.hid hlead
    have HNV := Lib.hid hnv
    have HDig := Lib.hid hdig
    have HStop := Lib.hid hstop
    have hn99 : n ≤ 99 := lead_99 hlead
    have hcs : a + c ≤ s.size := lead_room ha hdig
    clear hlead hnv hdig hstop
    obtain ⟨A, hA⟩ : ∃ A, A = a + c := ⟨_, rfl⟩
    have HSZ : s.size ≤ 1000 := hs
    have hAs : A ≤ s.size := by omega
    have HA := Lib.hid hA
    clear hA
    go_upto_block 2 with fail
    go_cut [5, 6] from 8 (fun v5 v6 wx => wx = wr ∧ v5 = .int .i64 (A : Int) ∧ v6 = .int .i64 (n : Int))
    case first =>
      go_wp2_with fail
      go_loop [5, 6] (fun s5 s6 => ∃ (j x v : Nat), j ≤ c ∧ s5 = .int .i64 (x : Int) ∧ x = a + j ∧ s6 = .int .i64 (v : Int) ∧ Hid (v = vl (s.data.toList.drop a) j) ∧ v < 10 ^ j) (fun s5 _ => s.size - (intOf s5).toNat)
      case atStart => exact ⟨0, a, 0, by omega, rfl, rfl, rfl, rfl, by omega⟩
      case round =>
        obtain ⟨j, x, v, hj, rfl, hx, rfl, hv, hv9⟩ := hrel
        have hp : 10 ^ j ≤ 10 ^ 2 := Nat.pow_le_pow_right (by omega) (by omega)
        have hv4 : v < 100 := by omega
        by_cases hlt : j < c
        · obtain ⟨b, hb, hb1, hb2⟩ := HDig.out j hlt
          have hxs : x < s.size := by omega
          have hgb : (s[x]'hxs) = b := by
            subst hx
            have := drop_at s a j hxs
            rw [hb] at this
            exact (Option.some.inj this).symm
          have hg0 : (s.data.toList.drop a).getD j 0 = b := by simp [List.getD, hb]
          obtain ⟨k, hk⟩ : ∃ k, (s[x]'hxs).toNat = k := ⟨_, rfl⟩
          have hk1 : 48 ≤ k := by rw [← hk, hgb]; exact hb1
          have hk2 : k ≤ 57 := by rw [← hk, hgb]; exact hb2
          have hvs := vl_step (s.data.toList.drop a) j (by omega)
          rw [← hv.out, hg0, ← hgb, hk] at hvs
          have HV2 : Hid (10 * v + (k - 48) = vl (s.data.toList.drop a) (j + 1)) := hvs.symm
          have hvb2 : Hid (10 * v + (k - 48) < 10 ^ (j + 1)) := by unfold Hid; rw [Nat.pow_succ]; omega
          have e1 : (x : Int) < (s.size : Int) := by omega
          have e2 : (x : Int) - (a : Int) < 2 := by omega
          have HX := Lib.hid hx
          clear hvs hg0 hgb hb hb1 hb2 hv hv9 hp hx
          go_wp2_with fail
          go_round
          case rel => exact ⟨j + 1, x + 1, 10 * v + (k - 48), by omega, by go_num, by have := HX.out; omega, by go_num, HV2, hvb2.out⟩
          case measure => simp [intOf]; omega
        · obtain rfl : j = c := by omega
          obtain rfl : x = A := by have := HA.out; omega
          have hvn : v = n := by rw [hv.out]; exact HNV.out.symm
          subst hvn
          have hfin : ∀ J : Prop, (x = s.size → J) → (∀ k (h : x < s.size), (s[x]'h).toNat = k → (k < 48 ∨ 57 < k) → J) → (j = 2 → x < s.size → J) → J := by
            intro J h1 h2 h3
            by_cases hj2 : j < 2
            · rcases HStop.out hj2 with hn | ⟨b, hb, hbb⟩
              · rw [List.getElem?_eq_none_iff, List.length_drop, list_size] at hn
                exact h1 (by have := HA.out; omega)
              · have hxs := (List.getElem?_eq_some_iff.1 hb).1
                rw [List.length_drop, list_size] at hxs
                have hlt : x < s.size := by have := HA.out; omega
                refine h2 _ hlt rfl ?_
                have := drop_at s a j (by have := HA.out; omega)
                rw [hb] at this
                have e := Option.some.inj this
                have e3 : (s[x]'hlt) = b := by
                  have hA := HA.out
                  subst hA; exact e.symm
                rw [e3]; exact hbb
            · by_cases hxs : x < s.size
              · exact h3 (by omega) hxs
              · exact h1 (by omega)
          clear hv hv9 hp hx
          refine hfin _ ?_ ?_ ?_
          · intro hxs
            have e1 : ¬ (x : Int) < (s.size : Int) := by omega
            clear hfin hxs
            go_wp2_with fail
            go_meet
            exact ⟨rfl, rfl, rfl⟩
          · intro k hxs hk hkb
            have e1 : (x : Int) < (s.size : Int) := by omega
            clear hfin
            rcases hkb with h1 | h1
            · go_wp2_with fail
              go_meet
              exact ⟨rfl, rfl, rfl⟩
            · have h2 : 48 ≤ k := by omega
              go_wp2_with fail
              go_meet
              exact ⟨rfl, rfl, rfl⟩
          · intro hj2 hxs
            have e1 : (x : Int) < (s.size : Int) := by omega
            have e2 : ¬ (x : Int) - (a : Int) < 2 := by have := HA.out; omega
            clear hfin hj2
            obtain ⟨k, hk⟩ : ∃ k, (s[x]'hxs).toNat = k := ⟨_, rfl⟩
            by_cases h1 : k < 48
            · go_wp2_with fail
              go_meet
              exact ⟨rfl, rfl, rfl⟩
            · have h1' : 48 ≤ k := by omega
              by_cases h2 : 57 < k
              · go_wp2_with fail
                go_meet
                exact ⟨rfl, rfl, rfl⟩
              · have h2' : k ≤ 57 := by omega
                go_wp2_with fail
                go_meet
                exact ⟨rfl, rfl, rfl⟩
    case rest => 
      obtain ⟨rfl, rfl, rfl⟩ := hcut
      have hN := fun q hq e => Inv.need hinv.out HLead.out (q := q) hq (HListOf.out q e)
      have HN := Lib.hid hN
      obtain ⟨ao, cap, e4, hrd4, hge⟩ := RdV.of_row hown.out
      rw [ints_length] at e4
      obtain ⟨L, hL⟩ : ∃ L, L = p.length := ⟨_, rfl⟩
      have hL5 : L ≤ 5 := by rw [hL]; exact hinv.out.2.2.1
      have hnil : p = [] ↔ L = 0 := by rw [hL]; exact List.length_eq_zero_iff.symm
      rw [← hL] at e4
      subst e4
      have HL := Lib.hid hL
      have hown2 := hown.out
      rw [← hL] at hown2
      have HO := Lib.hid hown2
      have HE : Hid ((∀ p, Pts p → s ≠ txt p) → ParRow s w (.returned (.tuple #[.slice none 0 0, .int .i64 60])) wc) := fun h => HBad.out h _ hbl.out
      have hA0 : c = 0 ↔ A = a := by have := HA.out; omega
      have hAc : (A : Int) - (a : Int) = (c : Int) := by have := HA.out; omega
      have HAC := Lib.hid hAc
      clear hN hL hown hown2 hrd4 hge hAc
      by_cases hc0 : c = 0
      · have HX := Lib.hid (HE.out (fun q hq e => (HN.out q hq e).1 hc0))
        have hb1 : ((A : Int) == (a : Int)) = true := beq_iff_eq.2 (by have := hA0.1 hc0; omega)
        clear hc0 hA0 hnil
        go_wp2_with fail
        go_ret2
        exact HX.out
      have hb1 : ((A : Int) == (a : Int)) = false := beq_eq_false_iff_ne.2 (fun e => hc0 (hA0.2 (by omega)))
      by_cases hn0 : n = 0
      · have HX := Lib.hid (HE.out (fun q hq e => (HN.out q hq e).2.1 hn0))
        have hb2 : ((n : Int) == 0) = true := beq_iff_eq.2 (by omega)
        clear hn0 hc0 hA0 hnil
        go_wp2_with fail
        go_ret2
        exact HX.out
      have hb2 : ((n : Int) == 0) = false := beq_eq_false_iff_ne.2 (by omega)
      by_cases hgood : (L = 0 ∧ c = 2) ∨ (L ≠ 0 ∧ L ≠ 5 ∧ (s.data.toList.drop a).head? ≠ some 48)
      · have hm := Inv.more hinv.out HLead.out hc0 hn0 (fun e => by have := hnil.1 e; omega) (fun e => by have : L ≠ 0 := fun h => e (hnil.2 h); rcases hgood with h | h; exact absurd h.1 this; exact h.2.2) (by have := HL.out; omega)
        have hAt : s.data.toList.take A = cod (p ++ [n]) := by rw [HA.out]; exact hm.2
        have HM : Hid (Pts (p ++ [n]) ∧ s.data.toList.take A = cod (p ++ [n])) := ⟨hm.1, hAt⟩
        have hpl : (p ++ [n]).length = L + 1 := by rw [List.length_append, ← HL.out]; rfl
        have HPL := Lib.hid hpl
        have hlt : a < s.size := by have := HA.out; omega
        obtain ⟨k, hk⟩ : ∃ k, (s[a]'hlt).toNat = k := ⟨_, rfl⟩
        have hk48 : (s.data.toList.drop a).head? ≠ some 48 → k ≠ 48 := by
          intro h e
          apply h
          have h0 := drop_at s a 0 hlt
          rw [List.head?_eq_getElem?, h0]
          have : (s[a]'hlt) = 48 := UInt8.toNat_inj.1 (by rw [hk, e]; rfl)
          exact congrArg some this
        have hrows : ∀ k, (Value.slice ao L cap).ownBlock = some k → w.heap.size ≤ k := fun k e => (HO.out.lt k e).1
        have hszc : w.heap.size ≤ wc.heap.size := hbl.out.size
        have HR := Lib.hid hrows
        have htests : (((L : Int) == 0) = true ∧ (((A : Int) - (a : Int) == 2) = true) ∧ (¬ 0 < L) ∧ ((L : Int) == 5) = false) ∨ (((L : Int) == 0) = false ∧ (0 < L) ∧ ((k : Int) == 48) = false ∧ ((L : Int) == 5) = false) := by
          rcases hgood with ⟨h1, h2⟩ | ⟨h1, h2, h3⟩
          · exact .inl ⟨beq_iff_eq.2 (by omega), beq_iff_eq.2 (by have := HAC.out; omega), by omega, beq_eq_false_iff_ne.2 (by omega)⟩
          · exact .inr ⟨beq_eq_false_iff_ne.2 (by omega), by omega, beq_eq_false_iff_ne.2 (by have := hk48 h3; omega), beq_eq_false_iff_ne.2 (by omega)⟩
        clear hm hAt hpl hgood hk48 hrows hn0 hc0 hA0 hnil
        by_cases hend : A = s.size
        · have e1 : ((A : Int) == (s.size : Int)) = true := beq_iff_eq.2 (by omega)
          have HT : Hid (s = txt (p ++ [n])) := by
            apply ba_ext
            have := HM.out.2
            rw [hend, ← list_size, List.take_length] at this
            rw [this, txt_list]
          have HF : Hid (∀ w' v, w'.ownsRow w.heap.size 3 1 v (p ++ [n]).length (ints (p ++ [n])) → Below w.heap.size w w' → ParRow s w (.returned (.tuple #[v, .int .i64 0])) w') := fun w' v ho hb => by
            exact ⟨.inl ⟨p ++ [n], v, HM.out.1, HT.out, rfl, ho⟩, hb⟩
          clear hend
          rcases htests with ⟨t1, t2, t3, t4⟩ | ⟨t1, t2, t3, t4⟩
          all_goals
            try (have t2' : ((A : Int) - (a : Int) != 2) = false := by rw [bne, t2]; rfl)
            go_wp2_with (at_builtin; refine wpList_append_own _ rfl _ _ 27 rfl w.heap.size 3 i0 (.int .i64 0) 1 8 Tryd.underlying27 hi hz0 hz1 hz2 rfl (by omega) _ _ _ rfl (HO.out.alloc _) ⟨wc.heap.size, 0, none⟩ 1 1 [.int .i64 (n : Int)] rfl rfl (one_cell _ _ _) (by intro u hu; simp at hu; rcases hu with rfl; rfl) (by unfold maxLen; omega) (by omega) (by simp; omega) ?_; intro v3 w3 hown3 hgr3 _)
            have HB3 : Hid (Below w.heap.size w w3) := by
              refine hbl.out.trans (Below.trans (b := wc.alloc (.cells #[.int .i64 (n : Int)] 3)) ((Below.refl _ _).alloc hszc _) ((Below.refl _ _).grown hgr3 (by simp; omega) (fun k e => HR.out k e)))
            have HO3 : Hid (w3.ownsRow w.heap.size 3 1 v3 (p ++ [n]).length (ints (p ++ [n]))) := by unfold Hid; rw [HPL.out, show ints (p ++ [n]) = ints p ++ [.int .i64 (n : Int)] by simp [ints]]; exact hown3
            clear hown3 hgr3
            go_wp2_with fail
            go_ret2
            exact HF.out _ _ HO3.out HB3.out
        · have hAlt : A < s.size := by omega
          have e1 : ((A : Int) == (s.size : Int)) = false := beq_eq_false_iff_ne.2 (by omega)
          obtain ⟨kA, hkA⟩ : ∃ k, (s[A]'hAlt).toNat = k := ⟨_, rfl⟩
          by_cases h46 : kA = 46
          · have e2 : ((kA : Int) == 46) = true := beq_iff_eq.2 (by omega)
            have e2' : ((kA : Int) != 46) = false := by rw [bne, e2]; rfl
            have HI2 : Hid (Inv s.data.toList (p ++ [n]) (A + 1)) := by
              refine Inv.next HM.out.1 HM.out.2 ?_
              rw [byte_at hAlt]
              exact congrArg some (UInt8.toNat_inj.1 (by rw [hkA, h46]; rfl))
            clear hend h46
            rcases htests with ⟨t1, t2, t3, t4⟩ | ⟨t1, t2, t3, t4⟩
            all_goals
              try (have t2' : ((A : Int) - (a : Int) != 2) = false := by rw [bne, t2]; rfl)
              go_wp2_with (at_builtin; refine wpList_append_own _ rfl _ _ 27 rfl w.heap.size 3 i0 (.int .i64 0) 1 8 Tryd.underlying27 hi hz0 hz1 hz2 rfl (by omega) _ _ _ rfl (HO.out.alloc _) ⟨wc.heap.size, 0, none⟩ 1 1 [.int .i64 (n : Int)] rfl rfl (one_cell _ _ _) (by intro u hu; simp at hu; rcases hu with rfl; rfl) (by unfold maxLen; omega) (by omega) (by simp; omega) ?_; intro v3 w3 hown3 hgr3 _)
              have HB3 : Hid (Below w.heap.size w w3) := by
                refine hbl.out.trans (Below.trans (b := wc.alloc (.cells #[.int .i64 (n : Int)] 3)) ((Below.refl _ _).alloc hszc _) ((Below.refl _ _).grown hgr3 (by simp; omega) (fun k e => HR.out k e)))
              have HO3 : Hid (w3.ownsRow w.heap.size 3 1 v3 (p ++ [n]).length (ints (p ++ [n]))) := by unfold Hid; rw [HPL.out, show ints (p ++ [n]) = ints p ++ [.int .i64 (n : Int)] by simp [ints]]; exact hown3
              clear hown3 hgr3
              go_wp2_with fail
              go_roundw
              case rel => exact ⟨A + 1, p ++ [n], _, by go_num, rfl, by omega, HI2, HO3, HB3⟩
              case measure => simp [intOf]; have := HA.out; omega
          · have e2 : ((kA : Int) == 46) = false := beq_eq_false_iff_ne.2 (by omega)
            have e2' : ((kA : Int) != 46) = true := by rw [bne, e2]; rfl
            have HNo : Hid (∀ p, Pts p → s ≠ txt p) := fun q hq e => by
              obtain ⟨_, _, _, _, _, ms, hms⟩ := HN.out q hq e
              have := rest_head hms (by rw [list_size]; have := HA.out; omega)
              rw [← HA.out, byte_at hAlt] at this
              apply h46
              rw [← hkA, Option.some.inj this]
              rfl
            clear hend h46
            rcases htests with ⟨t1, t2, t3, t4⟩ | ⟨t1, t2, t3, t4⟩
            all_goals
              try (have t2' : ((A : Int) - (a : Int) != 2) = false := by rw [bne, t2]; rfl)
              go_wp2_with (at_builtin; refine wpList_append_own _ rfl _ _ 27 rfl w.heap.size 3 i0 (.int .i64 0) 1 8 Tryd.underlying27 hi hz0 hz1 hz2 rfl (by omega) _ _ _ rfl (HO.out.alloc _) ⟨wc.heap.size, 0, none⟩ 1 1 [.int .i64 (n : Int)] rfl rfl (one_cell _ _ _) (by intro u hu; simp at hu; rcases hu with rfl; rfl) (by unfold maxLen; omega) (by omega) (by simp; omega) ?_; intro v3 w3 hown3 hgr3 _)
              have HB3 : Hid (Below w.heap.size w w3) := by
                refine hbl.out.trans (Below.trans (b := wc.alloc (.cells #[.int .i64 (n : Int)] 3)) ((Below.refl _ _).alloc hszc _) ((Below.refl _ _).grown hgr3 (by simp; omega) (fun k e => HR.out k e)))
              have HO3 : Hid (w3.ownsRow w.heap.size 3 1 v3 (p ++ [n]).length (ints (p ++ [n]))) := by unfold Hid; rw [HPL.out, show ints (p ++ [n]) = ints p ++ [.int .i64 (n : Int)] by simp [ints]]; exact hown3
              clear hown3 hgr3
              go_wp2_with fail
              go_ret2
              exact HBad.out HNo.out _ HB3.out
      · have HX := Lib.hid (HE.out (fun q hq e => by
          have h := HN.out q hq e
          apply hgood
          by_cases hL0 : L = 0
          · exact .inl ⟨hL0, h.2.2.1 (hnil.2 hL0)⟩
          · exact .inr ⟨hL0, by have := HL.out; have := h.2.2.2.2.1; omega, h.2.2.2.1 (fun e => hL0 (hnil.1 e))⟩))
        have hlt : a < s.size := by have := HA.out; have : c ≠ 0 := hc0; omega
        obtain ⟨k, hk⟩ : ∃ k, (s[a]'hlt).toNat = k := ⟨_, rfl⟩
        by_cases hL0 : L = 0
        · have t1 : ((L : Int) == 0) = true := beq_iff_eq.2 (by omega)
          have t2 : ((A : Int) - (a : Int) == 2) = false := beq_eq_false_iff_ne.2 (fun e => hgood (.inl ⟨hL0, by have := HAC.out; omega⟩))
          have t2' : ((A : Int) - (a : Int) != 2) = true := by rw [bne, t2]; rfl
          clear hgood hn0 hc0 hA0 hnil hL0
          go_wp2_with fail
          go_ret2
          exact HX.out
        · have t1 : ((L : Int) == 0) = false := beq_eq_false_iff_ne.2 (by omega)
          have t3 : 0 < L := by omega
          by_cases hk48 : k = 48
          · have t4 : ((k : Int) == 48) = true := beq_iff_eq.2 (by omega)
            clear hgood hn0 hc0 hA0 hnil hL0 hk48
            go_wp2_with fail
            go_ret2
            exact HX.out
          · have t4 : ((k : Int) == 48) = false := beq_eq_false_iff_ne.2 (by omega)
            have t5 : ((L : Int) == 5) = true := by
              apply beq_iff_eq.2
              apply Decidable.byContradiction
              intro h5
              refine hgood (.inr ⟨hL0, by omega, ?_⟩)
              rw [List.head?_eq_getElem?, drop_at s a 0 hlt]
              intro e
              apply hk48
              rw [← hk, show (s[a]'hlt) = 48 from Option.some.inj e]
              rfl
            clear hgood hn0 hc0 hA0 hnil hL0 hk48
            go_wp2_with fail
            go_ret2
            exact HX.out
theorem rParse_v (s : ByteArray) (hs : s.size ≤ 1000) (w : World) : Calls Tryd.prog 34 #[.string s] w (ParPost s w) := by
  refine (rParse_row s hs w).mono ?_
  rintro e w' ⟨h | h, hb⟩
  · obtain ⟨p, v, hp, hs, he, ho⟩ := h
    obtain ⟨ao, cap, e1, hr, hge⟩ := RdV.of_row ho
    rw [ints_length] at e1
    exact ⟨.inl ⟨p, ao, cap, hp, hs, by rw [he, e1], hr, fun h0 b o eq => hge (by rw [ints_length]; exact h0) b o eq⟩, hb⟩
  · exact ⟨.inr h, hb⟩
end Go.Proofs.YtkedgkfdmdlhoaaDoor.C6
