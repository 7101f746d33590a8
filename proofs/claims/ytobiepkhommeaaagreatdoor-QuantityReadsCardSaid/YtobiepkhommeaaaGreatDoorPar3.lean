import Derived.Test.YtobiepkhommeaaaGreatDoorPars
import Derived.Test.YtobiepkhommeaaaGreatDoorTxts
import Derived.Test.YtobiepkhommeaaaGreatDoorRnds
/- Texts of rational numbers: the reference's digits and Parse. -/
namespace Go.Proofs.YtobiepkhommeaaaGreatDoor
open Go.RowKit

theorem ret_b {a b : Bool} (h : a = b) : Ending.returned (.bool a) = .returned (.bool b) := by rw [h]

open Classical in
set_option maxHeartbeats 1000000 in
set_option maxRecDepth 100000 in
theorem rdigits_v (s : ByteArray) (m : Nat) (w : World) (hs : s.size ≤ 9223372036854775807) (hm : m ≤ 1000) :
    Calls Tryz.prog 125 #[.string s, .int .i64 (m : Int)] w fun e w' => e = .returned (.bool (decide (Digs s.data.toList ∧ 1 ≤ s.data.toList.length ∧ s.data.toList.length ≤ m))) ∧ w = w' := by
  have hsl := size_list s
  obtain ⟨r, hr⟩ : ∃ r, r = decide (Digs s.data.toList ∧ 1 ≤ s.data.toList.length ∧ s.data.toList.length ≤ m) := ⟨_, rfl⟩
  rw [← hr]
  have HRR := Lib.hid hr
  clear hr
  have hm2 : (m : Int) ≤ 1000 := by omega
  go_enter Tryz.func125, Tryz.ntmps125
  go_wp2
  go_loop [8] (fun s8 => ∃ k : Nat, k ≤ s.size ∧ s8 = .int .i64 k ∧ Hid (Digs (s.data.toList.take k))) (fun s8 => s.size - (intOf s8).toNat)
  case atStart => exact ⟨0, Nat.zero_le _, rfl, fun c hc => by simp at hc⟩
  case round =>
    obtain ⟨k, hk, rfl, hd⟩ := hrel
    by_cases hlt : k < s.size
    · have hbl : k < s.data.toList.length := by rw [size_list]; exact hlt
      by_cases hdig : isd s[k]
      · have hnew : Hid (Digs (s.data.toList.take (k + 1))) := by
          show Digs _; rw [take_snoc s k hlt]; intro c hc
          rcases List.mem_append.1 hc with h | h
          · exact hd.out c h
          · rw [List.mem_singleton] at h; subst h; exact hdig
        unfold isd at hdig
        obtain ⟨c, hc⟩ : ∃ c, s[k].toNat = c := ⟨_, rfl⟩
        rw [hc] at hdig
        have h1 : ¬ (c : Int) < 48 := by omega
        have h2 : ¬ (57 : Int) < (c : Int) := by omega
        clear hdig hsl
        go_wp2
        go_round
        case rel => exact ⟨k + 1, by omega, by go_num, hnew⟩
        case measure => simp [intOf]; omega
      · have hbad : Hid (false = decide (Digs s.data.toList ∧ 1 ≤ s.data.toList.length ∧ s.data.toList.length ≤ m)) := (decide_eq_false (fun h => hdig (by have := h.1 _ (List.getElem_mem hbl); rwa [byte_get s k hlt] at this))).symm
        unfold isd at hdig
        obtain ⟨c, hc⟩ : ∃ c, s[k].toNat = c := ⟨_, rfl⟩
        rw [hc] at hdig
        by_cases h1 : (c : Int) < 48
        · clear hdig hsl
          go_wp2
          go_ret
          exact ⟨ret_b (hbad.out.trans HRR.out.symm), rfl⟩
        · have h2 : (57 : Int) < (c : Int) := by omega
          clear hdig hsl
          go_wp2
          go_ret
          exact ⟨ret_b (hbad.out.trans HRR.out.symm), rfl⟩
    · have hall : Hid (Digs s.data.toList) := by
        show Digs _; have := hd.out; rwa [List.take_of_length_le (by rw [size_list]; omega)] at this
      clear hd
      by_cases h1 : 1 ≤ s.size
      · by_cases h2 : s.size ≤ m
        · have HX : Hid (true = decide (Digs s.data.toList ∧ 1 ≤ s.data.toList.length ∧ s.data.toList.length ≤ m)) := (decide_eq_true ⟨hall.out, by omega, by omega⟩).symm
          have h1I : (1 : Int) ≤ (s.size : Int) := by omega
          have h2I : (s.size : Int) ≤ (m : Int) := by omega
          clear hsl
          go_wp2
          go_ret
          exact ⟨ret_b (HX.out.trans HRR.out.symm), rfl⟩
        · have HX : Hid (false = decide (Digs s.data.toList ∧ 1 ≤ s.data.toList.length ∧ s.data.toList.length ≤ m)) := (decide_eq_false (fun h => by omega)).symm
          have h1I : (1 : Int) ≤ (s.size : Int) := by omega
          have h2I : ¬ (s.size : Int) ≤ (m : Int) := by omega
          clear hsl
          go_wp2
          go_ret
          exact ⟨ret_b (HX.out.trans HRR.out.symm), rfl⟩
      · have HX : Hid (false = decide (Digs s.data.toList ∧ 1 ≤ s.data.toList.length ∧ s.data.toList.length ≤ m)) := (decide_eq_false (fun h => by omega)).symm
        have h1I : ¬ (1 : Int) ≤ (s.size : Int) := by omega
        clear hsl
        go_wp2
        go_ret
        exact ⟨ret_b (HX.out.trans HRR.out.symm), rfl⟩

open Classical in
set_option maxHeartbeats 16000000 in
set_option maxRecDepth 100000 in
theorem rqParse_v (s : ByteArray) (w : World) (hs : s.size ≤ 1000) :
    Calls Tryz.prog 81 #[.string s] w (FormRes (¬ pOk (pneg s.data.toList) (pbody s.data.toList)) (pqv s.data.toList) 512 w) := by
  obtain ⟨W1, hW1, B0, X0, hs1⟩ := boxR w
  obtain ⟨ng, hng⟩ : ∃ b, b = pneg s.data.toList := ⟨_, rfl⟩
  obtain ⟨T, hT⟩ : ∃ T, T = bodyS s := ⟨_, rfl⟩
  have hTl : T.data.toList = pbody s.data.toList := by rw [hT]; exact bodyS_list s
  have hTs : T.size ≤ 1000 := by rw [hT]; exact Nat.le_trans (bodyS_size s) hs
  obtain ⟨h, hh⟩ : ∃ h, h = phead T.data.toList := ⟨_, rfl⟩
  obtain ⟨t, ht⟩ : ∃ t, t = ptail T.data.toList := ⟨_, rfl⟩
  obtain ⟨pt, hpt⟩ : ∃ b, b = decide (prest T.data.toList ≠ []) := ⟨_, rfl⟩
  obtain ⟨c, hc⟩ : ∃ c : Prop, c = ¬ pOk (pneg s.data.toList) (pbody s.data.toList) := ⟨_, rfl⟩
  obtain ⟨q, hq⟩ : ∃ q, q = pqv s.data.toList := ⟨_, rfl⟩
  have hiff : pOk (pneg s.data.toList) (pbody s.data.toList) ↔ (Good h ∧ h.length ≤ 30 ∧ (pt = true → Tail t) ∧ ¬ (ng = true ∧ dv 0 (h ++ t) = 0)) := by
    rw [hh, ht, hTl, hng, hpt, hTl]
    unfold pOk Tail
    constructor
    · rintro ⟨h1, h2, h3, h4⟩; exact ⟨h1, h2, fun k => h3 (of_decide_eq_true k), h4⟩
    · rintro ⟨h1, h2, h3, h4⟩; exact ⟨h1, h2, fun k => h3 (decide_eq_true k), h4⟩
  have BAD : Hid (¬ (Good h ∧ h.length ≤ 30 ∧ (pt = true → Tail t) ∧ ¬ (ng = true ∧ dv 0 (h ++ t) = 0)) → ∀ w', Below w.heap.size w w' → FormRes c q 512 w (.returned (.tuple #[.agg #[.bool false, .slice none 0 0, .slice none 0 0], .int .i64 22])) w') := fun k w' hb => by
    have k2 := fun x => k (hiff.1 x)
    exact FormRes.bad (by rw [hc]; exact k2) (by rw [hq]; exact pqv_bad k2) (by omega) (by omega) hb
  have GOOD : Hid ((Good h ∧ h.length ≤ 30 ∧ (pt = true → Tail t) ∧ ¬ (ng = true ∧ dv 0 (h ++ t) = 0)) → ∀ e w', MakesE (rq ng (dv 0 (h ++ t)) (10 ^ t.length)) 512 w e w' → FormRes c q 512 w e w') := fun k e w' hm => by
    have k2 := hiff.2 k
    refine FormRes.ok (by rw [hc]; exact not_not_intro k2) ?_
    rw [hq, pqv_ok k2, ← hTl, ← hh, ← ht, ← hng]
    exact hm
  have hcase : (s.size = 0 ∧ ng = false ∧ T = s) ∨ (∃ z : 0 < s.size, s[0].toNat = 45 ∧ ng = true ∧ T = s.extract 1 s.size) ∨ (∃ z : 0 < s.size, s[0].toNat ≠ 45 ∧ ng = false ∧ T = s) := by
    rcases Nat.eq_zero_or_pos s.size with z | z
    · have hn : pneg s.data.toList = false := by
        have : s.data.toList = [] := List.eq_nil_of_length_eq_zero (by rw [size_list]; exact z)
        rw [this]; rfl
      exact .inl ⟨z, by rw [hng, hn], by rw [hT]; exact if_neg (by rw [hn]; simp)⟩
    · have hh0 := head_byte s z
      by_cases h45 : s[0].toNat = 45
      · have hb : s[0] = 45 := UInt8.toNat_inj.1 (by rw [h45]; rfl)
        have hn : pneg s.data.toList = true := by unfold pneg; rw [hh0, hb]; rfl
        exact .inr (.inl ⟨z, h45, by rw [hng, hn], by rw [hT]; exact if_pos hn⟩)
      · have hn : pneg s.data.toList = false := by
          unfold pneg
          rw [hh0]
          exact beq_eq_false_iff_ne.2 (fun e => h45 (by rw [Option.some.inj e]; rfl))
        exact .inr (.inr ⟨z, h45, by rw [hng, hn], by rw [hT]; exact if_neg (by rw [hn]; simp)⟩)
  -- what stands at a place of the text
  have PA : Hid (∀ i : Nat, i ≤ T.size → (∀ j : Nat, j < i → T.data.toList[j]? ≠ some 46) → (i = T.size ∨ T.data.toList[i]? = some 46) → (T.extract 0 i).data.toList = h ∧ (T.extract (i + 1) T.size).data.toList = t ∧ (i = T.size → pt = false ∧ t = []) ∧ (i < T.size → pt = true)) := fun i hi h1 h2 => by
    obtain ⟨k1, k2, k3⟩ := parts_at (t := T.data.toList) (i := i) h1 (h2.imp_left (fun e => by rw [e, size_list]))
    refine ⟨by rw [list_take, hh, k1], ?_, fun e => ?_, fun hlt => ?_⟩
    · have := list_drop T (i + 1)
      rw [this, ht, k3]
    · have hd : T.data.toList.drop i = [] := by rw [e, ← size_list T, List.drop_length]
      refine ⟨by rw [hpt, k2, hd]; rfl, ?_⟩
      rw [ht, k3, e, List.drop_of_length_le (by rw [size_list]; omega)]
    · rw [hpt, k2]
      refine decide_eq_true (fun e => ?_)
      have := congrArg List.length e
      rw [List.length_drop, size_list] at this
      simp at this
      omega
  have RD : Hid (∀ (x : ByteArray) (m : Nat) (z : Int) (w : World), x.size ≤ 1000 → m ≤ 1000 → z = (m : Int) → Calls Tryz.prog 125 #[.string x, .int .i64 z] w fun e w' => e = .returned (.bool (decide (Digs x.data.toList ∧ 1 ≤ x.data.toList.length ∧ x.data.toList.length ≤ m))) ∧ w = w') := fun x m z w hx hm hz => by
    rw [hz]; exact rdigits_v x m w (by omega) hm
  rw [← hc, ← hq]
  have HTS := Lib.hid hTs
  clear hs1 hng hT hTl hh ht hpt hc hq hiff hTs
  rcases hcase with ⟨z0, rfl, hTe⟩ | ⟨z0, h45, rfl, hTe⟩ | ⟨z0, h45, rfl, hTe⟩
  · have hs0 : s = ⟨#[]⟩ := bytes_ext (List.eq_nil_of_length_eq_zero (by rw [size_list]; exact z0))
    subst hTe
    have HB : Hid (¬ (Good h ∧ h.length ≤ 30 ∧ (pt = true → Tail t) ∧ ¬ (false = true ∧ dv 0 (h ++ t) = 0))) := fun k => by
      obtain ⟨eh, _⟩ := PA.out 0 (by omega) (fun j hj => by omega) (.inl (by rw [z0]))
      have h1 := congrArg List.length eh
      rw [size_list, ByteArray.size_extract] at h1
      exact k.1.2.1 (List.eq_nil_of_length_eq_zero (by omega))
    have RH : Hid (∀ x : ByteArray, x.size = 0 → ∀ w, Calls Tryz.prog 125 #[.string x, .int .i64 30] w fun e w' => e = .returned (.bool false) ∧ w = w') := fun x hx w => by
      have := RD.out x 30 30 w (by omega) (by omega) rfl
      rw [decide_eq_false (fun k => by have := k.2.1; rw [size_list] at this; omega)] at this
      exact this
    clear PA RD GOOD HTS hs z0
    subst hs0
    go_enter Tryz.func81, Tryz.ntmps81
    go_wp2_with fail
    rw [← hW1]
    clear hW1
    go_loopw [5] (fun s5 wr => s5 = .int .i64 0 ∧ wr = W1) (fun _ _ => 0)
    case atStart => exact ⟨rfl, rfl⟩
    case round =>
      obtain ⟨rfl, rfl⟩ := hrel
      go_wp2_with fail
      refine (RH.out _ (by decide) _).mono ?_; rintro e w' ⟨rfl, rfl⟩
      obtain ⟨u0, u1, u2, q0, q1, q2, z0', z1, z2⟩ := X0.facts
      go_wp2_with fail
      refine bodyPost_ret (v := .tuple #[.agg #[.bool false, .slice none 0 0, .slice none 0 0], .int .i64 22]) (by simp [results, Tryz.results81, go_sem, q0, q1, q2]) rfl ?_
      exact BAD.out HB.out _ (below3 B0 (Nat.le_refl _) _ _ _)
  · have z0I : (0 : Int) < (s.size : Int) := by omega
    have h45I : ((s[0].toNat : Nat) : Int) = 45 := by omega
    have z1I : (1 : Int) ≤ (s.size : Int) := by omega
    go_enter Tryz.func81, Tryz.ntmps81
    go_wp2_with fail
    rw [← hW1]
    rw [← hTe]
    clear hTe
    clear hW1
    go_loopw [5] (fun s5 wr => ∃ i : Nat, i ≤ T.size ∧ s5 = .int .i64 (i : Int) ∧ wr = W1 ∧ Hid (∀ j : Nat, j < i → T.data.toList[j]? ≠ some 46)) (fun s5 _ => T.size - (intOf s5).toNat)
    case atStart => exact ⟨0, by omega, rfl, rfl, fun j hj => by omega⟩
    case round =>
      obtain ⟨i, hi, rfl, rfl, hpre⟩ := hrel
      have hTS := HTS.out
      have hiT : i ≤ 1000 := by omega
      by_cases hlt : i < T.size
      · have hltI : (i : Int) < (T.size : Int) := by omega
        obtain ⟨b, hb⟩ : ∃ b, T[i].toNat = b := ⟨_, rfl⟩
        have hil : i < T.data.toList.length := by rw [size_list]; exact hlt
        by_cases h46 : b = 46
        · have hT46 : T.data.toList[i]? = some 46 := by
            rw [List.getElem?_eq_getElem hil, byte_get T i hlt]
            exact congrArg some (UInt8.toNat_inj.1 (by rw [hb, h46]; rfl))
          have h46I : (b : Int) = 46 := by omega
          clear h46 hil
          obtain ⟨eh, et, e3, e4⟩ := PA.out i hi hpre.out (.inr hT46)
          obtain ⟨H, hH⟩ : ∃ H, H = T.extract 0 i := ⟨_, rfl⟩
          rw [← hH] at eh
          have hHs : H.size ≤ 1000 := by rw [hH, ByteArray.size_extract]; have := HTS.out; omega
          have hHl : H.size = h.length := by rw [← eh, size_list]
          have hHi : H.size = i := by rw [hH, ByteArray.size_extract]; omega
          have HH := Lib.hid hH
          have EH := Lib.hid eh
          have ept := e4 hlt
          subst ept
          have ET := Lib.hid et
          clear e3 e4 et
          by_cases hd : Digs h ∧ 1 ≤ h.length ∧ h.length ≤ 30
          · have RH : Hid (Calls Tryz.prog 125 #[.string (T.extract 0 i), .int .i64 30] wr fun e w' => e = .returned (.bool true) ∧ wr = w') := by
              have := RD.out H 30 30 wr hHs (by omega) rfl
              rw [eh, decide_eq_true hd, hH] at this
              exact this
            have hH0 : 0 < H.size := by omega
            have hi00 : 0 < i := by omega
            have hi0I : (0 : Int) < (i : Int) := by omega
            have hT0 : 0 < T.size := by omega
            have hhb := head_byte H hH0
            obtain ⟨c0, hc0⟩ : ∃ c0, H[0].toNat = c0 := ⟨_, rfl⟩
            have h48 : c0 = 48 ↔ h.head? = some 48 := by
              rw [← eh, hhb, ← hc0]
              constructor
              · intro e
                rw [show H[0] = 48 from UInt8.toNat_inj.1 (by rw [e]; rfl)]
              · intro e
                rw [Option.some.inj e]; rfl
            have HDG := Lib.hid hd
            have H48 := Lib.hid h48
            have HHL := Lib.hid hHl
            clear eh hhb h48 hd
            by_cases hz : c0 = 48 ∧ 1 < H.size
            · obtain ⟨hz1, hz2⟩ := hz
              have HB : Hid (¬ (Good h ∧ h.length ≤ 30 ∧ (true = true → Tail t) ∧ ¬ (true = true ∧ dv 0 (h ++ t) = 0))) := fun k => ((good_head).2 ⟨k.1, k.2.1⟩).2 ⟨H48.out.1 hz1, by have := HHL.out; omega⟩
              have hz1I : (c0 : Int) = 48 := by omega
              have hz2I : (1 : Int) < (i : Int) := by omega
              subst hH
              clear hHl hHs hz2 hHi
              go_wp2_with fail
              refine RH.out.mono ?_; rintro e w' ⟨rfl, rfl⟩
              have X2 := X0
              obtain ⟨u0, u1, u2, q0, q1, q2, z0', z1, z2⟩ := X2.facts
              go_wp2_with fail
              refine bodyPost_ret (v := .tuple #[.agg #[.bool false, .slice none 0 0, .slice none 0 0], .int .i64 22]) (by simp [results, Tryz.results81, go_sem, q0, q1, q2]) rfl ?_
              exact BAD.out HB.out _ (below3 B0 (Nat.le_refl _) _ _ _)
            · have HG : Hid (Good h ∧ h.length ≤ 30) := (good_head).1 ⟨HDG.out, fun k => hz ⟨H48.out.2 k.1, by have := HHL.out; omega⟩⟩
              have hzz : Hid (¬ (c0 : Int) = 48 ∨ (c0 : Int) = 48 ∧ ¬ (1 : Int) < (i : Int)) := by
                unfold Hid
                by_cases hx : c0 = 48
                · exact .inr ⟨by omega, fun k => hz ⟨hx, by omega⟩⟩
                · exact .inl (by omega)
              unfold Hid at hzz
              subst hH
              clear hHl hHs hz hHi
              rcases hzz with hz1I | ⟨hz1I, hz2I⟩
              all_goals
                go_wp2_with fail
                refine RH.out.mono ?_; rintro e w' ⟨rfl, rfl⟩
                have hA : (T.extract (i + 1) T.size).size ≤ 1000 := by rw [ByteArray.size_extract]; have := HTS.out; omega
                have hAl : (T.extract (i + 1) T.size).size = t.length := by rw [← ET.out, size_list]
                by_cases hdt : Digs t ∧ 1 ≤ t.length ∧ t.length ≤ 12
                · have RT : Hid (Calls Tryz.prog 125 #[.string (T.extract (i + 1) T.size), .int .i64 12] wr fun e w' => e = .returned (.bool true) ∧ wr = w') := by
                    have := RD.out (T.extract (i + 1) T.size) 12 12 wr hA (by omega) rfl
                    rw [ET.out, decide_eq_true hdt] at this
                    exact this
                  have HTL : Hid (Tail t) := ⟨hdt.1, List.length_pos_iff.1 hdt.2.1, hdt.2.2⟩
                  have HD : Hid (Digs (h ++ t)) := fun x hx => (List.mem_append.1 hx).elim (HG.out.1.1 x) (hdt.1 x)
                  have TLN : Hid (t.length ≤ 12) := hdt.2.2
                  obtain ⟨tl, htl⟩ : ∃ n, n = (T.extract (i + 1) T.size).size := ⟨_, rfl⟩
                  have TLE : Hid (tl = t.length) := by unfold Hid; rw [htl, hAl]
                  have htl2 : min T.size T.size - (i + 1) = tl := by rw [htl, ByteArray.size_extract]
                  have htl3 : T.size - (i + 1) = tl := by omega
                  obtain ⟨v, hv⟩ : ∃ v, v = dv 0 (h ++ t) := ⟨_, rfl⟩
                  have HV := Lib.hid hv
                  have DG : Hid (∀ (x : ByteArray) (w : World), x.data.toList = h ++ t → Calls Tryz.prog 124 #[.string x] w (Makes v w)) := fun x w hx => by
                    have := Digits_any x w (by rw [← size_list, hx, List.length_append]; have := HG.out.2; have := TLN.out; omega) (by rw [hx]; exact HD.out)
                    rwa [hx, ← hv] at this
                  clear hv
                  clear hA hAl hdt htl
                  go_wp2_with fail
                  refine RT.out.mono ?_; rintro e w' ⟨rfl, rfl⟩
                  go_wp2_with fail
                  refine (DG.out _ wr (by rw [← EH.out, ← ET.out]; simp)).mono ?_; rintro e W8 ⟨a8, c8, rfl, f8, b8⟩
                  have X8 := X0.below b8
                  have B8 := B0.trans (b8.mono B0.size)
                  have N8 := Num.of_fr f8 (show Sm v 512 by rw [HV.out]; exact sm_dv HD.out (by rw [List.length_append]; have := HG.out.2; have := TLN.out; omega))
                  obtain ⟨nl, hnl⟩ : ∃ n, n = (dig v).length := ⟨_, rfl⟩
                  have NL := Lib.hid hnl
                  rw [← hnl] at N8 ⊢
                  have NV := Lib.hid N8
                  clear f8 b8 N8 hnl
                  have SV : Hid (Sm v 512) := by unfold Hid; rw [HV.out]; exact sm_dv HD.out (by rw [List.length_append]; have := HG.out.2; have := TLN.out; omega)
                  by_cases hneg : true = true ∧ v = 0
                  · have HB : Hid (¬ (Good h ∧ h.length ≤ 30 ∧ (true = true → Tail t) ∧ ¬ (true = true ∧ dv 0 (h ++ t) = 0))) := fun k => k.2.2.2 ⟨hneg.1, by rw [← HV.out]; exact hneg.2⟩
                    have hl0 : ((nl : Int) == 0) = true := by rw [NL.out, hneg.2, dig_zero]; rfl
                    have hX8 := X8
                    obtain ⟨u0, u1, u2, q0, q1, q2, z0', z1, z2⟩ := X8.facts
                    first
                      | (exfalso; exact absurd hneg.1 (by decide))
                      | (go_wp2_with fail
                         refine bodyPost_ret (v := .tuple #[.agg #[.bool false, .slice none 0 0, .slice none 0 0], .int .i64 22]) (by simp [results, Tryz.results81, go_sem, q0, q1, q2]) rfl ?_
                         exact BAD.out HB.out _ (below3 B8 (Nat.le_refl _) _ _ _))
                  · have HK : Hid (Good h ∧ h.length ≤ 30 ∧ (true = true → Tail t) ∧ ¬ (true = true ∧ dv 0 (h ++ t) = 0)) := ⟨HG.out.1, HG.out.2, (fun _ => HTL.out), by rw [← HV.out]; exact hneg⟩
                    have hl0 : true = false ∨ ((nl : Int) == 0) = false := by
                      by_cases hn : true = true
                      · exact .inr (beq_eq_false_iff_ne.2 (fun e => hneg ⟨hn, by
                          by_cases hv0 : v = 0
                          · exact hv0
                          · have := dig_length_pos (Nat.pos_of_ne_zero hv0)
                            have := NL.out
                            omega⟩))
                      · exact .inl (Bool.eq_false_iff.2 hn)
                    have bn := below_new W8 (.cells #[.int .u32 10] 35)
                    have N10 := (lit_new W8 10 (by omega))
                    have NV9 := Lib.hid (NV.out.below bn)
                    have X9 := X8.below bn
                    have B9 := B8.trans (bn.mono B8.size)
                    have HRT : Hid (Calls Tryz.prog 117 #[.slice (some ⟨W8.heap.size, 0, none⟩) 1 1, .int .i64 (tl : Int)] (W8.alloc (.cells #[.int .u32 10] 35)) (Makes (10 ^ tl) (W8.alloc (.cells #[.int .u32 10] 35)))) := raise_ten N10 (by have := TLN.out; have := TLE.out; omega)
                    have ST : Hid (Sm (10 ^ tl) 512) := (ten_sm (by have := TLN.out; have := TLE.out; omega)).up (by omega) (by omega)
                    obtain ⟨D, hD⟩ : ∃ D, D = 10 ^ tl := ⟨_, rfl⟩
                    have hD0 : 0 < D := by rw [hD]; exact Nat.pow_pos (by omega)
                    have HDD : Hid (D = 10 ^ t.length) := by unfold Hid; rw [hD, TLE.out]
                    unfold Hid at HRT ST
                    rw [← hD] at HRT ST
                    have HRT := Lib.hid HRT
                    have ST := Lib.hid ST
                    obtain ⟨W9, hW9⟩ : ∃ W9, W9 = W8.alloc (.cells #[.int .u32 10] 35) := ⟨_, rfl⟩
                    unfold Hid at HRT NV9
                    rw [← hW9] at HRT NV9 X9 B9
                    have HRT := Lib.hid HRT
                    have NV9 := Lib.hid NV9
                    clear hneg hD bn N10
                    rcases hl0 with hl0 | hl0
                    all_goals
                      first
                        | (exfalso; exact absurd hl0 (by decide))
                        | (go_wp2_with fail
                           rw [← hW9]
                           refine HRT.out.mono ?_; rintro e W10 ⟨a10, c10, rfl, f10, b10⟩
                           have X10 := X9.below b10
                           have B10 := B9.trans (b10.mono B9.size)
                           have NA := NV9.out.below b10
                           have NB := Num.of_fr f10 ST.out
                           go_wp2_with fail
                           refine (made_any _ a8 a10 _ c8 _ c10 v D 512 _ NA NB hD0 SV.out ST.out).mono ?_
                           rintro e W11 ⟨s9, a9, n9, c9, o9, m9, d9, rfl, hcq, b11⟩
                           have X11 := X10.below b11
                           have hl := GOOD.out HK.out _ _ (by rw [← HV.out, ← HDD.out]; exact MakesE.of (MakesQ.lift hcq rfl X10.lt (Nat.le_refl _) (B10.trans (b11.mono B10.size)) (.bool s9) (.slice a9 n9 c9) (.slice o9 m9 d9)))
                           have HF := Lib.hid hl
                           obtain ⟨u0, u1, u2, q0, q1, q2, z0', z1, z2⟩ := X11.facts
                           clear hl hcq b11 NA NB f10 b10
                           go_wp2_with fail
                           refine bodyPost_ret (v := .tuple #[.agg #[.bool s9, .slice a9 n9 c9, .slice o9 m9 d9], .int .i64 0]) (by simp [results, Tryz.results81, go_sem, q0, q1, q2]) rfl ?_
                           exact HF.out)
                · have RT : Hid (Calls Tryz.prog 125 #[.string (T.extract (i + 1) T.size), .int .i64 12] wr fun e w' => e = .returned (.bool false) ∧ wr = w') := by
                    have := RD.out (T.extract (i + 1) T.size) 12 12 wr hA (by omega) rfl
                    rw [ET.out, decide_eq_false hdt] at this
                    exact this
                  have HB : Hid (¬ (Good h ∧ h.length ≤ 30 ∧ (true = true → Tail t) ∧ ¬ (true = true ∧ dv 0 (h ++ t) = 0))) := fun k => hdt ⟨(k.2.2.1 rfl).1, List.length_pos_iff.2 (k.2.2.1 rfl).2.1, (k.2.2.1 rfl).2.2⟩
                  clear hA hAl hdt
                  go_wp2_with fail
                  refine RT.out.mono ?_; rintro e w' ⟨rfl, rfl⟩
                  have X2 := X0
                  obtain ⟨u0, u1, u2, q0, q1, q2, z0', z1, z2⟩ := X2.facts
                  go_wp2_with fail
                  refine bodyPost_ret (v := .tuple #[.agg #[.bool false, .slice none 0 0, .slice none 0 0], .int .i64 22]) (by simp [results, Tryz.results81, go_sem, q0, q1, q2]) rfl ?_
                  exact BAD.out HB.out _ (below3 B0 (Nat.le_refl _) _ _ _)
          · have RH : Hid (Calls Tryz.prog 125 #[.string (T.extract 0 i), .int .i64 30] wr fun e w' => e = .returned (.bool false) ∧ wr = w') := by
              have := RD.out H 30 30 wr hHs (by omega) rfl
              rw [eh, decide_eq_false hd, hH] at this
              exact this
            have HB : Hid (¬ (Good h ∧ h.length ≤ 30 ∧ (true = true → Tail t) ∧ ¬ (true = true ∧ dv 0 (h ++ t) = 0))) := fun k => hd ((good_head).2 ⟨k.1, k.2.1⟩).1
            clear hH hHl hHs eh hd hHi
            go_wp2_with fail
            refine RH.out.mono ?_; rintro e w' ⟨rfl, rfl⟩
            have X2 := X0
            obtain ⟨u0, u1, u2, q0, q1, q2, z0', z1, z2⟩ := X2.facts
            go_wp2_with fail
            refine bodyPost_ret (v := .tuple #[.agg #[.bool false, .slice none 0 0, .slice none 0 0], .int .i64 22]) (by simp [results, Tryz.results81, go_sem, q0, q1, q2]) rfl ?_
            exact BAD.out HB.out _ (below3 B0 (Nat.le_refl _) _ _ _)
        · have h46I : ¬ (b : Int) = 46 := by omega
          have HP : Hid (∀ j : Nat, j < i + 1 → T.data.toList[j]? ≠ some 46) := fun j hj => by
            by_cases hji : j < i
            · exact hpre.out j hji
            · obtain rfl : j = i := by omega
              rw [List.getElem?_eq_getElem hil, byte_get T j hlt]
              intro e
              exact h46 (by rw [← hb, Option.some.inj e]; rfl)
          clear h46 hil
          go_wp2_with fail
          go_roundw
          case rel => exact ⟨i + 1, by omega, by go_num, by trivial, HP⟩
          case measure => simp [intOf]; omega
      · have hie : i = T.size := by omega
        have hltI : ¬ (i : Int) < (T.size : Int) := by omega
        obtain ⟨eh, et, e3, e4⟩ := PA.out i hi hpre.out (.inl hie)
        obtain ⟨H, hH⟩ : ∃ H, H = T.extract 0 i := ⟨_, rfl⟩
        rw [← hH] at eh
        have hHs : H.size ≤ 1000 := by rw [hH, ByteArray.size_extract]; have := HTS.out; omega
        have hHl : H.size = h.length := by rw [← eh, size_list]
        have hHi : H.size = i := by rw [hH, ByteArray.size_extract]; omega
        have HH := Lib.hid hH
        have EH := Lib.hid eh
        obtain ⟨ept, et0⟩ := e3 hie
        subst ept
        have ET := Lib.hid et0
        clear e3 e4 et et0 hie
        by_cases hd : Digs h ∧ 1 ≤ h.length ∧ h.length ≤ 30
        · have RH : Hid (Calls Tryz.prog 125 #[.string (T.extract 0 i), .int .i64 30] wr fun e w' => e = .returned (.bool true) ∧ wr = w') := by
            have := RD.out H 30 30 wr hHs (by omega) rfl
            rw [eh, decide_eq_true hd, hH] at this
            exact this
          have hH0 : 0 < H.size := by omega
          have hi00 : 0 < i := by omega
          have hi0I : (0 : Int) < (i : Int) := by omega
          have hT0 : 0 < T.size := by omega
          have hhb := head_byte H hH0
          obtain ⟨c0, hc0⟩ : ∃ c0, H[0].toNat = c0 := ⟨_, rfl⟩
          have h48 : c0 = 48 ↔ h.head? = some 48 := by
            rw [← eh, hhb, ← hc0]
            constructor
            · intro e
              rw [show H[0] = 48 from UInt8.toNat_inj.1 (by rw [e]; rfl)]
            · intro e
              rw [Option.some.inj e]; rfl
          have HDG := Lib.hid hd
          have H48 := Lib.hid h48
          have HHL := Lib.hid hHl
          clear eh hhb h48 hd
          by_cases hz : c0 = 48 ∧ 1 < H.size
          · obtain ⟨hz1, hz2⟩ := hz
            have HB : Hid (¬ (Good h ∧ h.length ≤ 30 ∧ (false = true → Tail t) ∧ ¬ (true = true ∧ dv 0 (h ++ t) = 0))) := fun k => ((good_head).2 ⟨k.1, k.2.1⟩).2 ⟨H48.out.1 hz1, by have := HHL.out; omega⟩
            have hz1I : (c0 : Int) = 48 := by omega
            have hz2I : (1 : Int) < (i : Int) := by omega
            subst hH
            clear hHl hHs hz2 hHi
            go_wp2_with fail
            refine RH.out.mono ?_; rintro e w' ⟨rfl, rfl⟩
            have X2 := X0
            obtain ⟨u0, u1, u2, q0, q1, q2, z0', z1, z2⟩ := X2.facts
            go_wp2_with fail
            refine bodyPost_ret (v := .tuple #[.agg #[.bool false, .slice none 0 0, .slice none 0 0], .int .i64 22]) (by simp [results, Tryz.results81, go_sem, q0, q1, q2]) rfl ?_
            exact BAD.out HB.out _ (below3 B0 (Nat.le_refl _) _ _ _)
          · have HG : Hid (Good h ∧ h.length ≤ 30) := (good_head).1 ⟨HDG.out, fun k => hz ⟨H48.out.2 k.1, by have := HHL.out; omega⟩⟩
            have hzz : Hid (¬ (c0 : Int) = 48 ∨ (c0 : Int) = 48 ∧ ¬ (1 : Int) < (i : Int)) := by
              unfold Hid
              by_cases hx : c0 = 48
              · exact .inr ⟨by omega, fun k => hz ⟨hx, by omega⟩⟩
              · exact .inl (by omega)
            unfold Hid at hzz
            subst hH
            clear hHl hHs hz hHi
            rcases hzz with hz1I | ⟨hz1I, hz2I⟩
            all_goals
              go_wp2_with fail
              refine RH.out.mono ?_; rintro e w' ⟨rfl, rfl⟩
              have HT3 : Hid (false = true → Tail t) := fun k => by cases k
              have HD : Hid (Digs (h ++ t)) := by unfold Hid; rw [ET.out, List.append_nil]; exact HG.out.1.1
              have TLN : Hid (t.length ≤ 12) := by unfold Hid; rw [ET.out]; simp
              have TLE : Hid (0 = t.length) := by unfold Hid; rw [ET.out]; rfl
              obtain ⟨v, hv⟩ : ∃ v, v = dv 0 (h ++ t) := ⟨_, rfl⟩
              have HV := Lib.hid hv
              have DG : Hid (∀ (x : ByteArray) (w : World), x.data.toList = h ++ t → Calls Tryz.prog 124 #[.string x] w (Makes v w)) := fun x w hx => by
                have := Digits_any x w (by rw [← size_list, hx, List.length_append]; have := HG.out.2; have := TLN.out; omega) (by rw [hx]; exact HD.out)
                rwa [hx, ← hv] at this
              clear hv
              go_wp2_with fail
              refine (DG.out _ wr (by rw [ET.out, List.append_nil, ← EH.out]; simp)).mono ?_; rintro e W8 ⟨a8, c8, rfl, f8, b8⟩
              have X8 := X0.below b8
              have B8 := B0.trans (b8.mono B0.size)
              have N8 := Num.of_fr f8 (show Sm v 512 by rw [HV.out]; exact sm_dv HD.out (by rw [List.length_append]; have := HG.out.2; have := TLN.out; omega))
              obtain ⟨nl, hnl⟩ : ∃ n, n = (dig v).length := ⟨_, rfl⟩
              have NL := Lib.hid hnl
              rw [← hnl] at N8 ⊢
              have NV := Lib.hid N8
              clear f8 b8 N8 hnl
              have SV : Hid (Sm v 512) := by unfold Hid; rw [HV.out]; exact sm_dv HD.out (by rw [List.length_append]; have := HG.out.2; have := TLN.out; omega)
              by_cases hneg : true = true ∧ v = 0
              · have HB : Hid (¬ (Good h ∧ h.length ≤ 30 ∧ (false = true → Tail t) ∧ ¬ (true = true ∧ dv 0 (h ++ t) = 0))) := fun k => k.2.2.2 ⟨hneg.1, by rw [← HV.out]; exact hneg.2⟩
                have hl0 : ((nl : Int) == 0) = true := by rw [NL.out, hneg.2, dig_zero]; rfl
                have hX8 := X8
                obtain ⟨u0, u1, u2, q0, q1, q2, z0', z1, z2⟩ := X8.facts
                first
                  | (exfalso; exact absurd hneg.1 (by decide))
                  | (go_wp2_with fail
                     refine bodyPost_ret (v := .tuple #[.agg #[.bool false, .slice none 0 0, .slice none 0 0], .int .i64 22]) (by simp [results, Tryz.results81, go_sem, q0, q1, q2]) rfl ?_
                     exact BAD.out HB.out _ (below3 B8 (Nat.le_refl _) _ _ _))
              · have HK : Hid (Good h ∧ h.length ≤ 30 ∧ (false = true → Tail t) ∧ ¬ (true = true ∧ dv 0 (h ++ t) = 0)) := ⟨HG.out.1, HG.out.2, HT3.out, by rw [← HV.out]; exact hneg⟩
                have hl0 : true = false ∨ ((nl : Int) == 0) = false := by
                  by_cases hn : true = true
                  · exact .inr (beq_eq_false_iff_ne.2 (fun e => hneg ⟨hn, by
                      by_cases hv0 : v = 0
                      · exact hv0
                      · have := dig_length_pos (Nat.pos_of_ne_zero hv0)
                        have := NL.out
                        omega⟩))
                  · exact .inl (Bool.eq_false_iff.2 hn)
                have bn := below_new W8 (.cells #[.int .u32 10] 35)
                have N10 := (lit_new W8 10 (by omega))
                have NV9 := Lib.hid (NV.out.below bn)
                have X9 := X8.below bn
                have B9 := B8.trans (bn.mono B8.size)
                have HRT : Hid (Calls Tryz.prog 117 #[.slice (some ⟨W8.heap.size, 0, none⟩) 1 1, .int .i64 0] (W8.alloc (.cells #[.int .u32 10] 35)) (Makes (10 ^ 0) (W8.alloc (.cells #[.int .u32 10] 35)))) := raise_ten (j := 0) N10 (by have := TLN.out; have := TLE.out; omega)
                have ST : Hid (Sm (10 ^ 0) 512) := (ten_sm (by have := TLN.out; have := TLE.out; omega)).up (by omega) (by omega)
                obtain ⟨D, hD⟩ : ∃ D, D = 10 ^ 0 := ⟨_, rfl⟩
                have hD0 : 0 < D := by rw [hD]; exact Nat.pow_pos (by omega)
                have HDD : Hid (D = 10 ^ t.length) := by unfold Hid; rw [hD, TLE.out]
                unfold Hid at HRT ST
                rw [← hD] at HRT ST
                have HRT := Lib.hid HRT
                have ST := Lib.hid ST
                obtain ⟨W9, hW9⟩ : ∃ W9, W9 = W8.alloc (.cells #[.int .u32 10] 35) := ⟨_, rfl⟩
                unfold Hid at HRT NV9
                rw [← hW9] at HRT NV9 X9 B9
                have HRT := Lib.hid HRT
                have NV9 := Lib.hid NV9
                clear hneg hD bn N10
                rcases hl0 with hl0 | hl0
                all_goals
                  first
                    | (exfalso; exact absurd hl0 (by decide))
                    | (go_wp2_with fail
                       rw [← hW9]
                       refine HRT.out.mono ?_; rintro e W10 ⟨a10, c10, rfl, f10, b10⟩
                       have X10 := X9.below b10
                       have B10 := B9.trans (b10.mono B9.size)
                       have NA := NV9.out.below b10
                       have NB := Num.of_fr f10 ST.out
                       go_wp2_with fail
                       refine (made_any _ a8 a10 _ c8 _ c10 v D 512 _ NA NB hD0 SV.out ST.out).mono ?_
                       rintro e W11 ⟨s9, a9, n9, c9, o9, m9, d9, rfl, hcq, b11⟩
                       have X11 := X10.below b11
                       have hl := GOOD.out HK.out _ _ (by rw [← HV.out, ← HDD.out]; exact MakesE.of (MakesQ.lift hcq rfl X10.lt (Nat.le_refl _) (B10.trans (b11.mono B10.size)) (.bool s9) (.slice a9 n9 c9) (.slice o9 m9 d9)))
                       have HF := Lib.hid hl
                       obtain ⟨u0, u1, u2, q0, q1, q2, z0', z1, z2⟩ := X11.facts
                       clear hl hcq b11 NA NB f10 b10
                       go_wp2_with fail
                       refine bodyPost_ret (v := .tuple #[.agg #[.bool s9, .slice a9 n9 c9, .slice o9 m9 d9], .int .i64 0]) (by simp [results, Tryz.results81, go_sem, q0, q1, q2]) rfl ?_
                       exact HF.out)
        · have RH : Hid (Calls Tryz.prog 125 #[.string (T.extract 0 i), .int .i64 30] wr fun e w' => e = .returned (.bool false) ∧ wr = w') := by
            have := RD.out H 30 30 wr hHs (by omega) rfl
            rw [eh, decide_eq_false hd, hH] at this
            exact this
          have HB : Hid (¬ (Good h ∧ h.length ≤ 30 ∧ (false = true → Tail t) ∧ ¬ (true = true ∧ dv 0 (h ++ t) = 0))) := fun k => hd ((good_head).2 ⟨k.1, k.2.1⟩).1
          clear hH hHl hHs eh hd hHi
          go_wp2_with fail
          refine RH.out.mono ?_; rintro e w' ⟨rfl, rfl⟩
          have X2 := X0
          obtain ⟨u0, u1, u2, q0, q1, q2, z0', z1, z2⟩ := X2.facts
          go_wp2_with fail
          refine bodyPost_ret (v := .tuple #[.agg #[.bool false, .slice none 0 0, .slice none 0 0], .int .i64 22]) (by simp [results, Tryz.results81, go_sem, q0, q1, q2]) rfl ?_
          exact BAD.out HB.out _ (below3 B0 (Nat.le_refl _) _ _ _)
  · have z0I : (0 : Int) < (s.size : Int) := by omega
    have h45I : ¬ ((s[0].toNat : Nat) : Int) = 45 := by omega
    subst hTe
    go_enter Tryz.func81, Tryz.ntmps81
    go_wp2_with fail
    rw [← hW1]
    clear hW1
    go_loopw [5] (fun s5 wr => ∃ i : Nat, i ≤ T.size ∧ s5 = .int .i64 (i : Int) ∧ wr = W1 ∧ Hid (∀ j : Nat, j < i → T.data.toList[j]? ≠ some 46)) (fun s5 _ => T.size - (intOf s5).toNat)
    case atStart => exact ⟨0, by omega, rfl, rfl, fun j hj => by omega⟩
    case round =>
      obtain ⟨i, hi, rfl, rfl, hpre⟩ := hrel
      have hTS := HTS.out
      have hiT : i ≤ 1000 := by omega
      by_cases hlt : i < T.size
      · have hltI : (i : Int) < (T.size : Int) := by omega
        obtain ⟨b, hb⟩ : ∃ b, T[i].toNat = b := ⟨_, rfl⟩
        have hil : i < T.data.toList.length := by rw [size_list]; exact hlt
        by_cases h46 : b = 46
        · have hT46 : T.data.toList[i]? = some 46 := by
            rw [List.getElem?_eq_getElem hil, byte_get T i hlt]
            exact congrArg some (UInt8.toNat_inj.1 (by rw [hb, h46]; rfl))
          have h46I : (b : Int) = 46 := by omega
          clear h46 hil
          obtain ⟨eh, et, e3, e4⟩ := PA.out i hi hpre.out (.inr hT46)
          obtain ⟨H, hH⟩ : ∃ H, H = T.extract 0 i := ⟨_, rfl⟩
          rw [← hH] at eh
          have hHs : H.size ≤ 1000 := by rw [hH, ByteArray.size_extract]; have := HTS.out; omega
          have hHl : H.size = h.length := by rw [← eh, size_list]
          have hHi : H.size = i := by rw [hH, ByteArray.size_extract]; omega
          have HH := Lib.hid hH
          have EH := Lib.hid eh
          have ept := e4 hlt
          subst ept
          have ET := Lib.hid et
          clear e3 e4 et
          by_cases hd : Digs h ∧ 1 ≤ h.length ∧ h.length ≤ 30
          · have RH : Hid (Calls Tryz.prog 125 #[.string (T.extract 0 i), .int .i64 30] wr fun e w' => e = .returned (.bool true) ∧ wr = w') := by
              have := RD.out H 30 30 wr hHs (by omega) rfl
              rw [eh, decide_eq_true hd, hH] at this
              exact this
            have hH0 : 0 < H.size := by omega
            have hi00 : 0 < i := by omega
            have hi0I : (0 : Int) < (i : Int) := by omega
            have hT0 : 0 < T.size := by omega
            have hhb := head_byte H hH0
            obtain ⟨c0, hc0⟩ : ∃ c0, H[0].toNat = c0 := ⟨_, rfl⟩
            have h48 : c0 = 48 ↔ h.head? = some 48 := by
              rw [← eh, hhb, ← hc0]
              constructor
              · intro e
                rw [show H[0] = 48 from UInt8.toNat_inj.1 (by rw [e]; rfl)]
              · intro e
                rw [Option.some.inj e]; rfl
            have HDG := Lib.hid hd
            have H48 := Lib.hid h48
            have HHL := Lib.hid hHl
            clear eh hhb h48 hd
            by_cases hz : c0 = 48 ∧ 1 < H.size
            · obtain ⟨hz1, hz2⟩ := hz
              have HB : Hid (¬ (Good h ∧ h.length ≤ 30 ∧ (true = true → Tail t) ∧ ¬ (false = true ∧ dv 0 (h ++ t) = 0))) := fun k => ((good_head).2 ⟨k.1, k.2.1⟩).2 ⟨H48.out.1 hz1, by have := HHL.out; omega⟩
              have hz1I : (c0 : Int) = 48 := by omega
              have hz2I : (1 : Int) < (i : Int) := by omega
              subst hH
              clear hHl hHs hz2 hHi
              go_wp2_with fail
              refine RH.out.mono ?_; rintro e w' ⟨rfl, rfl⟩
              have X2 := X0
              obtain ⟨u0, u1, u2, q0, q1, q2, z0', z1, z2⟩ := X2.facts
              go_wp2_with fail
              refine bodyPost_ret (v := .tuple #[.agg #[.bool false, .slice none 0 0, .slice none 0 0], .int .i64 22]) (by simp [results, Tryz.results81, go_sem, q0, q1, q2]) rfl ?_
              exact BAD.out HB.out _ (below3 B0 (Nat.le_refl _) _ _ _)
            · have HG : Hid (Good h ∧ h.length ≤ 30) := (good_head).1 ⟨HDG.out, fun k => hz ⟨H48.out.2 k.1, by have := HHL.out; omega⟩⟩
              have hzz : Hid (¬ (c0 : Int) = 48 ∨ (c0 : Int) = 48 ∧ ¬ (1 : Int) < (i : Int)) := by
                unfold Hid
                by_cases hx : c0 = 48
                · exact .inr ⟨by omega, fun k => hz ⟨hx, by omega⟩⟩
                · exact .inl (by omega)
              unfold Hid at hzz
              subst hH
              clear hHl hHs hz hHi
              rcases hzz with hz1I | ⟨hz1I, hz2I⟩
              all_goals
                go_wp2_with fail
                refine RH.out.mono ?_; rintro e w' ⟨rfl, rfl⟩
                have hA : (T.extract (i + 1) T.size).size ≤ 1000 := by rw [ByteArray.size_extract]; have := HTS.out; omega
                have hAl : (T.extract (i + 1) T.size).size = t.length := by rw [← ET.out, size_list]
                by_cases hdt : Digs t ∧ 1 ≤ t.length ∧ t.length ≤ 12
                · have RT : Hid (Calls Tryz.prog 125 #[.string (T.extract (i + 1) T.size), .int .i64 12] wr fun e w' => e = .returned (.bool true) ∧ wr = w') := by
                    have := RD.out (T.extract (i + 1) T.size) 12 12 wr hA (by omega) rfl
                    rw [ET.out, decide_eq_true hdt] at this
                    exact this
                  have HTL : Hid (Tail t) := ⟨hdt.1, List.length_pos_iff.1 hdt.2.1, hdt.2.2⟩
                  have HD : Hid (Digs (h ++ t)) := fun x hx => (List.mem_append.1 hx).elim (HG.out.1.1 x) (hdt.1 x)
                  have TLN : Hid (t.length ≤ 12) := hdt.2.2
                  obtain ⟨tl, htl⟩ : ∃ n, n = (T.extract (i + 1) T.size).size := ⟨_, rfl⟩
                  have TLE : Hid (tl = t.length) := by unfold Hid; rw [htl, hAl]
                  have htl2 : min T.size T.size - (i + 1) = tl := by rw [htl, ByteArray.size_extract]
                  have htl3 : T.size - (i + 1) = tl := by omega
                  obtain ⟨v, hv⟩ : ∃ v, v = dv 0 (h ++ t) := ⟨_, rfl⟩
                  have HV := Lib.hid hv
                  have DG : Hid (∀ (x : ByteArray) (w : World), x.data.toList = h ++ t → Calls Tryz.prog 124 #[.string x] w (Makes v w)) := fun x w hx => by
                    have := Digits_any x w (by rw [← size_list, hx, List.length_append]; have := HG.out.2; have := TLN.out; omega) (by rw [hx]; exact HD.out)
                    rwa [hx, ← hv] at this
                  clear hv
                  clear hA hAl hdt htl
                  go_wp2_with fail
                  refine RT.out.mono ?_; rintro e w' ⟨rfl, rfl⟩
                  go_wp2_with fail
                  refine (DG.out _ wr (by rw [← EH.out, ← ET.out]; simp)).mono ?_; rintro e W8 ⟨a8, c8, rfl, f8, b8⟩
                  have X8 := X0.below b8
                  have B8 := B0.trans (b8.mono B0.size)
                  have N8 := Num.of_fr f8 (show Sm v 512 by rw [HV.out]; exact sm_dv HD.out (by rw [List.length_append]; have := HG.out.2; have := TLN.out; omega))
                  obtain ⟨nl, hnl⟩ : ∃ n, n = (dig v).length := ⟨_, rfl⟩
                  have NL := Lib.hid hnl
                  rw [← hnl] at N8 ⊢
                  have NV := Lib.hid N8
                  clear f8 b8 N8 hnl
                  have SV : Hid (Sm v 512) := by unfold Hid; rw [HV.out]; exact sm_dv HD.out (by rw [List.length_append]; have := HG.out.2; have := TLN.out; omega)
                  by_cases hneg : false = true ∧ v = 0
                  · have HB : Hid (¬ (Good h ∧ h.length ≤ 30 ∧ (true = true → Tail t) ∧ ¬ (false = true ∧ dv 0 (h ++ t) = 0))) := fun k => k.2.2.2 ⟨hneg.1, by rw [← HV.out]; exact hneg.2⟩
                    have hl0 : ((nl : Int) == 0) = true := by rw [NL.out, hneg.2, dig_zero]; rfl
                    have hX8 := X8
                    obtain ⟨u0, u1, u2, q0, q1, q2, z0', z1, z2⟩ := X8.facts
                    first
                      | (exfalso; exact absurd hneg.1 (by decide))
                      | (go_wp2_with fail
                         refine bodyPost_ret (v := .tuple #[.agg #[.bool false, .slice none 0 0, .slice none 0 0], .int .i64 22]) (by simp [results, Tryz.results81, go_sem, q0, q1, q2]) rfl ?_
                         exact BAD.out HB.out _ (below3 B8 (Nat.le_refl _) _ _ _))
                  · have HK : Hid (Good h ∧ h.length ≤ 30 ∧ (true = true → Tail t) ∧ ¬ (false = true ∧ dv 0 (h ++ t) = 0)) := ⟨HG.out.1, HG.out.2, (fun _ => HTL.out), by rw [← HV.out]; exact hneg⟩
                    have hl0 : false = false ∨ ((nl : Int) == 0) = false := by
                      by_cases hn : false = true
                      · exact .inr (beq_eq_false_iff_ne.2 (fun e => hneg ⟨hn, by
                          by_cases hv0 : v = 0
                          · exact hv0
                          · have := dig_length_pos (Nat.pos_of_ne_zero hv0)
                            have := NL.out
                            omega⟩))
                      · exact .inl (Bool.eq_false_iff.2 hn)
                    have bn := below_new W8 (.cells #[.int .u32 10] 35)
                    have N10 := (lit_new W8 10 (by omega))
                    have NV9 := Lib.hid (NV.out.below bn)
                    have X9 := X8.below bn
                    have B9 := B8.trans (bn.mono B8.size)
                    have HRT : Hid (Calls Tryz.prog 117 #[.slice (some ⟨W8.heap.size, 0, none⟩) 1 1, .int .i64 (tl : Int)] (W8.alloc (.cells #[.int .u32 10] 35)) (Makes (10 ^ tl) (W8.alloc (.cells #[.int .u32 10] 35)))) := raise_ten N10 (by have := TLN.out; have := TLE.out; omega)
                    have ST : Hid (Sm (10 ^ tl) 512) := (ten_sm (by have := TLN.out; have := TLE.out; omega)).up (by omega) (by omega)
                    obtain ⟨D, hD⟩ : ∃ D, D = 10 ^ tl := ⟨_, rfl⟩
                    have hD0 : 0 < D := by rw [hD]; exact Nat.pow_pos (by omega)
                    have HDD : Hid (D = 10 ^ t.length) := by unfold Hid; rw [hD, TLE.out]
                    unfold Hid at HRT ST
                    rw [← hD] at HRT ST
                    have HRT := Lib.hid HRT
                    have ST := Lib.hid ST
                    obtain ⟨W9, hW9⟩ : ∃ W9, W9 = W8.alloc (.cells #[.int .u32 10] 35) := ⟨_, rfl⟩
                    unfold Hid at HRT NV9
                    rw [← hW9] at HRT NV9 X9 B9
                    have HRT := Lib.hid HRT
                    have NV9 := Lib.hid NV9
                    clear hneg hD bn N10
                    rcases hl0 with hl0 | hl0
                    all_goals
                      first
                        | (exfalso; exact absurd hl0 (by decide))
                        | (go_wp2_with fail
                           rw [← hW9]
                           refine HRT.out.mono ?_; rintro e W10 ⟨a10, c10, rfl, f10, b10⟩
                           have X10 := X9.below b10
                           have B10 := B9.trans (b10.mono B9.size)
                           have NA := NV9.out.below b10
                           have NB := Num.of_fr f10 ST.out
                           go_wp2_with fail
                           refine (made_any _ a8 a10 _ c8 _ c10 v D 512 _ NA NB hD0 SV.out ST.out).mono ?_
                           rintro e W11 ⟨s9, a9, n9, c9, o9, m9, d9, rfl, hcq, b11⟩
                           have X11 := X10.below b11
                           have hl := GOOD.out HK.out _ _ (by rw [← HV.out, ← HDD.out]; exact MakesE.of (MakesQ.lift hcq rfl X10.lt (Nat.le_refl _) (B10.trans (b11.mono B10.size)) (.bool s9) (.slice a9 n9 c9) (.slice o9 m9 d9)))
                           have HF := Lib.hid hl
                           obtain ⟨u0, u1, u2, q0, q1, q2, z0', z1, z2⟩ := X11.facts
                           clear hl hcq b11 NA NB f10 b10
                           go_wp2_with fail
                           refine bodyPost_ret (v := .tuple #[.agg #[.bool s9, .slice a9 n9 c9, .slice o9 m9 d9], .int .i64 0]) (by simp [results, Tryz.results81, go_sem, q0, q1, q2]) rfl ?_
                           exact HF.out)
                · have RT : Hid (Calls Tryz.prog 125 #[.string (T.extract (i + 1) T.size), .int .i64 12] wr fun e w' => e = .returned (.bool false) ∧ wr = w') := by
                    have := RD.out (T.extract (i + 1) T.size) 12 12 wr hA (by omega) rfl
                    rw [ET.out, decide_eq_false hdt] at this
                    exact this
                  have HB : Hid (¬ (Good h ∧ h.length ≤ 30 ∧ (true = true → Tail t) ∧ ¬ (false = true ∧ dv 0 (h ++ t) = 0))) := fun k => hdt ⟨(k.2.2.1 rfl).1, List.length_pos_iff.2 (k.2.2.1 rfl).2.1, (k.2.2.1 rfl).2.2⟩
                  clear hA hAl hdt
                  go_wp2_with fail
                  refine RT.out.mono ?_; rintro e w' ⟨rfl, rfl⟩
                  have X2 := X0
                  obtain ⟨u0, u1, u2, q0, q1, q2, z0', z1, z2⟩ := X2.facts
                  go_wp2_with fail
                  refine bodyPost_ret (v := .tuple #[.agg #[.bool false, .slice none 0 0, .slice none 0 0], .int .i64 22]) (by simp [results, Tryz.results81, go_sem, q0, q1, q2]) rfl ?_
                  exact BAD.out HB.out _ (below3 B0 (Nat.le_refl _) _ _ _)
          · have RH : Hid (Calls Tryz.prog 125 #[.string (T.extract 0 i), .int .i64 30] wr fun e w' => e = .returned (.bool false) ∧ wr = w') := by
              have := RD.out H 30 30 wr hHs (by omega) rfl
              rw [eh, decide_eq_false hd, hH] at this
              exact this
            have HB : Hid (¬ (Good h ∧ h.length ≤ 30 ∧ (true = true → Tail t) ∧ ¬ (false = true ∧ dv 0 (h ++ t) = 0))) := fun k => hd ((good_head).2 ⟨k.1, k.2.1⟩).1
            clear hH hHl hHs eh hd hHi
            go_wp2_with fail
            refine RH.out.mono ?_; rintro e w' ⟨rfl, rfl⟩
            have X2 := X0
            obtain ⟨u0, u1, u2, q0, q1, q2, z0', z1, z2⟩ := X2.facts
            go_wp2_with fail
            refine bodyPost_ret (v := .tuple #[.agg #[.bool false, .slice none 0 0, .slice none 0 0], .int .i64 22]) (by simp [results, Tryz.results81, go_sem, q0, q1, q2]) rfl ?_
            exact BAD.out HB.out _ (below3 B0 (Nat.le_refl _) _ _ _)
        · have h46I : ¬ (b : Int) = 46 := by omega
          have HP : Hid (∀ j : Nat, j < i + 1 → T.data.toList[j]? ≠ some 46) := fun j hj => by
            by_cases hji : j < i
            · exact hpre.out j hji
            · obtain rfl : j = i := by omega
              rw [List.getElem?_eq_getElem hil, byte_get T j hlt]
              intro e
              exact h46 (by rw [← hb, Option.some.inj e]; rfl)
          clear h46 hil
          go_wp2_with fail
          go_roundw
          case rel => exact ⟨i + 1, by omega, by go_num, by trivial, HP⟩
          case measure => simp [intOf]; omega
      · have hie : i = T.size := by omega
        have hltI : ¬ (i : Int) < (T.size : Int) := by omega
        obtain ⟨eh, et, e3, e4⟩ := PA.out i hi hpre.out (.inl hie)
        obtain ⟨H, hH⟩ : ∃ H, H = T.extract 0 i := ⟨_, rfl⟩
        rw [← hH] at eh
        have hHs : H.size ≤ 1000 := by rw [hH, ByteArray.size_extract]; have := HTS.out; omega
        have hHl : H.size = h.length := by rw [← eh, size_list]
        have hHi : H.size = i := by rw [hH, ByteArray.size_extract]; omega
        have HH := Lib.hid hH
        have EH := Lib.hid eh
        obtain ⟨ept, et0⟩ := e3 hie
        subst ept
        have ET := Lib.hid et0
        clear e3 e4 et et0 hie
        by_cases hd : Digs h ∧ 1 ≤ h.length ∧ h.length ≤ 30
        · have RH : Hid (Calls Tryz.prog 125 #[.string (T.extract 0 i), .int .i64 30] wr fun e w' => e = .returned (.bool true) ∧ wr = w') := by
            have := RD.out H 30 30 wr hHs (by omega) rfl
            rw [eh, decide_eq_true hd, hH] at this
            exact this
          have hH0 : 0 < H.size := by omega
          have hi00 : 0 < i := by omega
          have hi0I : (0 : Int) < (i : Int) := by omega
          have hT0 : 0 < T.size := by omega
          have hhb := head_byte H hH0
          obtain ⟨c0, hc0⟩ : ∃ c0, H[0].toNat = c0 := ⟨_, rfl⟩
          have h48 : c0 = 48 ↔ h.head? = some 48 := by
            rw [← eh, hhb, ← hc0]
            constructor
            · intro e
              rw [show H[0] = 48 from UInt8.toNat_inj.1 (by rw [e]; rfl)]
            · intro e
              rw [Option.some.inj e]; rfl
          have HDG := Lib.hid hd
          have H48 := Lib.hid h48
          have HHL := Lib.hid hHl
          clear eh hhb h48 hd
          by_cases hz : c0 = 48 ∧ 1 < H.size
          · obtain ⟨hz1, hz2⟩ := hz
            have HB : Hid (¬ (Good h ∧ h.length ≤ 30 ∧ (false = true → Tail t) ∧ ¬ (false = true ∧ dv 0 (h ++ t) = 0))) := fun k => ((good_head).2 ⟨k.1, k.2.1⟩).2 ⟨H48.out.1 hz1, by have := HHL.out; omega⟩
            have hz1I : (c0 : Int) = 48 := by omega
            have hz2I : (1 : Int) < (i : Int) := by omega
            subst hH
            clear hHl hHs hz2 hHi
            go_wp2_with fail
            refine RH.out.mono ?_; rintro e w' ⟨rfl, rfl⟩
            have X2 := X0
            obtain ⟨u0, u1, u2, q0, q1, q2, z0', z1, z2⟩ := X2.facts
            go_wp2_with fail
            refine bodyPost_ret (v := .tuple #[.agg #[.bool false, .slice none 0 0, .slice none 0 0], .int .i64 22]) (by simp [results, Tryz.results81, go_sem, q0, q1, q2]) rfl ?_
            exact BAD.out HB.out _ (below3 B0 (Nat.le_refl _) _ _ _)
          · have HG : Hid (Good h ∧ h.length ≤ 30) := (good_head).1 ⟨HDG.out, fun k => hz ⟨H48.out.2 k.1, by have := HHL.out; omega⟩⟩
            have hzz : Hid (¬ (c0 : Int) = 48 ∨ (c0 : Int) = 48 ∧ ¬ (1 : Int) < (i : Int)) := by
              unfold Hid
              by_cases hx : c0 = 48
              · exact .inr ⟨by omega, fun k => hz ⟨hx, by omega⟩⟩
              · exact .inl (by omega)
            unfold Hid at hzz
            subst hH
            clear hHl hHs hz hHi
            rcases hzz with hz1I | ⟨hz1I, hz2I⟩
            all_goals
              go_wp2_with fail
              refine RH.out.mono ?_; rintro e w' ⟨rfl, rfl⟩
              have HT3 : Hid (false = true → Tail t) := fun k => by cases k
              have HD : Hid (Digs (h ++ t)) := by unfold Hid; rw [ET.out, List.append_nil]; exact HG.out.1.1
              have TLN : Hid (t.length ≤ 12) := by unfold Hid; rw [ET.out]; simp
              have TLE : Hid (0 = t.length) := by unfold Hid; rw [ET.out]; rfl
              obtain ⟨v, hv⟩ : ∃ v, v = dv 0 (h ++ t) := ⟨_, rfl⟩
              have HV := Lib.hid hv
              have DG : Hid (∀ (x : ByteArray) (w : World), x.data.toList = h ++ t → Calls Tryz.prog 124 #[.string x] w (Makes v w)) := fun x w hx => by
                have := Digits_any x w (by rw [← size_list, hx, List.length_append]; have := HG.out.2; have := TLN.out; omega) (by rw [hx]; exact HD.out)
                rwa [hx, ← hv] at this
              clear hv
              go_wp2_with fail
              refine (DG.out _ wr (by rw [ET.out, List.append_nil, ← EH.out]; simp)).mono ?_; rintro e W8 ⟨a8, c8, rfl, f8, b8⟩
              have X8 := X0.below b8
              have B8 := B0.trans (b8.mono B0.size)
              have N8 := Num.of_fr f8 (show Sm v 512 by rw [HV.out]; exact sm_dv HD.out (by rw [List.length_append]; have := HG.out.2; have := TLN.out; omega))
              obtain ⟨nl, hnl⟩ : ∃ n, n = (dig v).length := ⟨_, rfl⟩
              have NL := Lib.hid hnl
              rw [← hnl] at N8 ⊢
              have NV := Lib.hid N8
              clear f8 b8 N8 hnl
              have SV : Hid (Sm v 512) := by unfold Hid; rw [HV.out]; exact sm_dv HD.out (by rw [List.length_append]; have := HG.out.2; have := TLN.out; omega)
              by_cases hneg : false = true ∧ v = 0
              · have HB : Hid (¬ (Good h ∧ h.length ≤ 30 ∧ (false = true → Tail t) ∧ ¬ (false = true ∧ dv 0 (h ++ t) = 0))) := fun k => k.2.2.2 ⟨hneg.1, by rw [← HV.out]; exact hneg.2⟩
                have hl0 : ((nl : Int) == 0) = true := by rw [NL.out, hneg.2, dig_zero]; rfl
                have hX8 := X8
                obtain ⟨u0, u1, u2, q0, q1, q2, z0', z1, z2⟩ := X8.facts
                first
                  | (exfalso; exact absurd hneg.1 (by decide))
                  | (go_wp2_with fail
                     refine bodyPost_ret (v := .tuple #[.agg #[.bool false, .slice none 0 0, .slice none 0 0], .int .i64 22]) (by simp [results, Tryz.results81, go_sem, q0, q1, q2]) rfl ?_
                     exact BAD.out HB.out _ (below3 B8 (Nat.le_refl _) _ _ _))
              · have HK : Hid (Good h ∧ h.length ≤ 30 ∧ (false = true → Tail t) ∧ ¬ (false = true ∧ dv 0 (h ++ t) = 0)) := ⟨HG.out.1, HG.out.2, HT3.out, by rw [← HV.out]; exact hneg⟩
                have hl0 : false = false ∨ ((nl : Int) == 0) = false := by
                  by_cases hn : false = true
                  · exact .inr (beq_eq_false_iff_ne.2 (fun e => hneg ⟨hn, by
                      by_cases hv0 : v = 0
                      · exact hv0
                      · have := dig_length_pos (Nat.pos_of_ne_zero hv0)
                        have := NL.out
                        omega⟩))
                  · exact .inl (Bool.eq_false_iff.2 hn)
                have bn := below_new W8 (.cells #[.int .u32 10] 35)
                have N10 := (lit_new W8 10 (by omega))
                have NV9 := Lib.hid (NV.out.below bn)
                have X9 := X8.below bn
                have B9 := B8.trans (bn.mono B8.size)
                have HRT : Hid (Calls Tryz.prog 117 #[.slice (some ⟨W8.heap.size, 0, none⟩) 1 1, .int .i64 0] (W8.alloc (.cells #[.int .u32 10] 35)) (Makes (10 ^ 0) (W8.alloc (.cells #[.int .u32 10] 35)))) := raise_ten (j := 0) N10 (by have := TLN.out; have := TLE.out; omega)
                have ST : Hid (Sm (10 ^ 0) 512) := (ten_sm (by have := TLN.out; have := TLE.out; omega)).up (by omega) (by omega)
                obtain ⟨D, hD⟩ : ∃ D, D = 10 ^ 0 := ⟨_, rfl⟩
                have hD0 : 0 < D := by rw [hD]; exact Nat.pow_pos (by omega)
                have HDD : Hid (D = 10 ^ t.length) := by unfold Hid; rw [hD, TLE.out]
                unfold Hid at HRT ST
                rw [← hD] at HRT ST
                have HRT := Lib.hid HRT
                have ST := Lib.hid ST
                obtain ⟨W9, hW9⟩ : ∃ W9, W9 = W8.alloc (.cells #[.int .u32 10] 35) := ⟨_, rfl⟩
                unfold Hid at HRT NV9
                rw [← hW9] at HRT NV9 X9 B9
                have HRT := Lib.hid HRT
                have NV9 := Lib.hid NV9
                clear hneg hD bn N10
                rcases hl0 with hl0 | hl0
                all_goals
                  first
                    | (exfalso; exact absurd hl0 (by decide))
                    | (go_wp2_with fail
                       rw [← hW9]
                       refine HRT.out.mono ?_; rintro e W10 ⟨a10, c10, rfl, f10, b10⟩
                       have X10 := X9.below b10
                       have B10 := B9.trans (b10.mono B9.size)
                       have NA := NV9.out.below b10
                       have NB := Num.of_fr f10 ST.out
                       go_wp2_with fail
                       refine (made_any _ a8 a10 _ c8 _ c10 v D 512 _ NA NB hD0 SV.out ST.out).mono ?_
                       rintro e W11 ⟨s9, a9, n9, c9, o9, m9, d9, rfl, hcq, b11⟩
                       have X11 := X10.below b11
                       have hl := GOOD.out HK.out _ _ (by rw [← HV.out, ← HDD.out]; exact MakesE.of (MakesQ.lift hcq rfl X10.lt (Nat.le_refl _) (B10.trans (b11.mono B10.size)) (.bool s9) (.slice a9 n9 c9) (.slice o9 m9 d9)))
                       have HF := Lib.hid hl
                       obtain ⟨u0, u1, u2, q0, q1, q2, z0', z1, z2⟩ := X11.facts
                       clear hl hcq b11 NA NB f10 b10
                       go_wp2_with fail
                       refine bodyPost_ret (v := .tuple #[.agg #[.bool s9, .slice a9 n9 c9, .slice o9 m9 d9], .int .i64 0]) (by simp [results, Tryz.results81, go_sem, q0, q1, q2]) rfl ?_
                       exact HF.out)
        · have RH : Hid (Calls Tryz.prog 125 #[.string (T.extract 0 i), .int .i64 30] wr fun e w' => e = .returned (.bool false) ∧ wr = w') := by
            have := RD.out H 30 30 wr hHs (by omega) rfl
            rw [eh, decide_eq_false hd, hH] at this
            exact this
          have HB : Hid (¬ (Good h ∧ h.length ≤ 30 ∧ (false = true → Tail t) ∧ ¬ (false = true ∧ dv 0 (h ++ t) = 0))) := fun k => hd ((good_head).2 ⟨k.1, k.2.1⟩).1
          clear hH hHl hHs eh hd hHi
          go_wp2_with fail
          refine RH.out.mono ?_; rintro e w' ⟨rfl, rfl⟩
          have X2 := X0
          obtain ⟨u0, u1, u2, q0, q1, q2, z0', z1, z2⟩ := X2.facts
          go_wp2_with fail
          refine bodyPost_ret (v := .tuple #[.agg #[.bool false, .slice none 0 0, .slice none 0 0], .int .i64 22]) (by simp [results, Tryz.results81, go_sem, q0, q1, q2]) rfl ?_
          exact BAD.out HB.out _ (below3 B0 (Nat.le_refl _) _ _ _)
end Go.Proofs.YtobiepkhommeaaaGreatDoor
