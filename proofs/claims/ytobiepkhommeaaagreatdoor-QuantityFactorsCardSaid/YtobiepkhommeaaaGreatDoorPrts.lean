import Derived.Test.YtobiepkhommeaaaGreatDoorPars
import Derived.Test.YtobiepkhommeaaaGreatDoorAwake2
import Derived.Test.YtobiepkhommeaaaGreatDoorTxts6
import Derived.Test.YtobiepkhommeaaaGreatDoorRnds
import Derived.Test.YtobiepkhommeaaaGreatDoorRats
/- Printed rational numbers: the text, and what Parse says of it. -/
namespace Go.Proofs.YtobiepkhommeaaaGreatDoor
open Go.Lib

def fpad (d : Nat) (D : List UInt8) : List UInt8 := List.replicate (d + 1 - D.length) 48 ++ D
theorem fpad_length (d : Nat) (D : List UInt8) : (fpad d D).length = (d + 1 - D.length) + D.length := by unfold fpad; rw [List.length_append, List.length_replicate]
/-- the point's place -/
def fpt (d : Nat) (D : List UInt8) : Nat := (fpad d D).length - d
def fbody (d : Nat) (D : List UInt8) : List UInt8 := if 0 < d then (fpad d D).take (fpt d D) ++ 46 :: (fpad d D).drop (fpt d D) else D
def ftext (neg : Bool) (U d : Nat) : List UInt8 := if neg = true ∧ 0 < U then 45 :: fbody d (decDigits U) else fbody d (decDigits U)
theorem digs_pad (d : Nat) {D : List UInt8} (h : Digs D) : Digs (fpad d D) := fun c hc => by
  rcases List.mem_append.1 hc with h1 | h1
  · rw [List.eq_of_mem_replicate h1]; exact ⟨by decide, by decide⟩
  · exact h c h1
theorem dv_zeros (k : Nat) (D : List UInt8) : dv 0 (List.replicate k 48 ++ D) = dv 0 D := by
  induction k with
  | zero => rfl
  | succ k ih => rw [List.replicate_succ, List.cons_append, dv_cons]; exact ih
theorem digs_ne {D : List UInt8} (h : Digs D) {c : UInt8} (hc : c.toNat < 48) : ∀ j : Nat, D[j]? ≠ some c := fun j e => by
  have hm := List.mem_of_getElem? e
  have := (h c hm).1
  omega
theorem parts_join {h t : List UInt8} (hd : Digs h) : phead (h ++ 46 :: t) = h ∧ prest (h ++ 46 :: t) = 46 :: t ∧ ptail (h ++ 46 :: t) = t := by
  obtain ⟨e1, e2, e3⟩ := parts_at (t := h ++ 46 :: t) (i := h.length) (fun j hj e => by
    rw [List.getElem?_append_left hj] at e
    exact digs_ne hd (by decide) j e) (.inr (by rw [List.getElem?_append_right (Nat.le_refl _)]; simp))
  refine ⟨by rw [e1]; simp, by rw [e2]; simp, by rw [e3]; simp⟩
theorem parts_whole {h : List UInt8} (hd : Digs h) : phead h = h ∧ prest h = [] ∧ ptail h = [] := by
  obtain ⟨e1, e2, e3⟩ := parts_at (t := h) (i := h.length) (fun j _ e => digs_ne hd (by decide) j e) (.inl rfl)
  exact ⟨by rw [e1]; simp, by rw [e2]; simp, by rw [e3]; simp⟩
/-- the text's parts -/
theorem fbody_parts (U d : Nat) (hd : d ≤ 12) : ∃ h t, phead (fbody d (decDigits U)) = h ∧ ptail (fbody d (decDigits U)) = t ∧ Good h ∧ t.length = d ∧ dv 0 (h ++ t) = U ∧ (prest (fbody d (decDigits U)) ≠ [] → Digs t ∧ t ≠ [] ∧ t.length ≤ 12) ∧ (h.length ≤ 1 ∨ h.length + d = (decDigits U).length) ∧
    ∃ c r, fbody d (decDigits U) = c :: r ∧ c ≠ 45 := by
  have hg := good_dec U
  have hD := digs_dec U
  have hU := dv_dec U
  have hlen : 0 < (decDigits U).length := List.length_pos_iff.2 hg.2.1
  unfold fbody
  by_cases h0 : 0 < d
  · rw [if_pos h0]
    have hp := digs_pad d hD
    have hpl := fpad_length d (decDigits U)
    obtain ⟨e1, e2, e3⟩ := parts_join (h := (fpad d (decDigits U)).take (fpt d (decDigits U))) (t := (fpad d (decDigits U)).drop (fpt d (decDigits U))) (hp.take _)
    have htl : ((fpad d (decDigits U)).drop (fpt d (decDigits U))).length = d := by
      rw [List.length_drop]; unfold fpt; omega
    have hhl : ((fpad d (decDigits U)).take (fpt d (decDigits U))).length = fpt d (decDigits U) := by
      rw [List.length_take]; unfold fpt; omega
    have hf1 : 1 ≤ fpt d (decDigits U) := by unfold fpt; omega
    refine ⟨_, _, e1, e3, ⟨hp.take _, ?_, ?_⟩, htl, ?_, fun _ => ⟨hp.drop _, ?_, by omega⟩, ?_, ?_⟩
    · exact List.length_pos_iff.1 (by omega)
    · by_cases hs : (decDigits U).length ≤ d
      · left
        have hk : d + 1 - (decDigits U).length = (d - (decDigits U).length) + 1 := by omega
        have hpt : fpt d (decDigits U) = 1 := by unfold fpt; omega
        rw [hpt]
        unfold fpad
        rw [hk, List.replicate_succ]
        rfl
      · right
        have hk : d + 1 - (decDigits U).length = 0 := by omega
        have hpe : fpad d (decDigits U) = decDigits U := by unfold fpad; rw [hk]; rfl
        rw [hpe]
        rcases hg.2.2 with h1 | h1
        · rw [h1] at hs; simp at hs; omega
        · cases hc : decDigits U with
          | nil => rw [hc] at hlen; simp at hlen
          | cons c r =>
            rw [hc] at h1 hf1
            obtain ⟨k, hk2⟩ : ∃ k, fpt d (c :: r) = k + 1 := ⟨fpt d (c :: r) - 1, by omega⟩
            rw [hk2, List.take_succ_cons]
            exact h1
    · rw [List.take_append_drop]
      unfold fpad
      rw [dv_zeros, hU]
    · exact List.length_pos_iff.1 (by omega)
    · rw [hhl]
      unfold fpt
      omega
    · cases hc : (fpad d (decDigits U)).take (fpt d (decDigits U)) with
      | nil => rw [hc] at hhl; simp at hhl; omega
      | cons c r =>
        refine ⟨c, _, rfl, fun e => ?_⟩
        have := (hp.take (fpt d (decDigits U))) c (by rw [hc]; exact List.mem_cons_self)
        rw [e] at this
        have h2 := this.1
        revert h2
        decide
  · rw [if_neg h0]
    obtain rfl : d = 0 := by omega
    obtain ⟨e1, e2, e3⟩ := parts_whole hD
    refine ⟨_, _, e1, e3, hg, rfl, by rw [List.append_nil]; exact hU, fun h => absurd e2 h, .inr (by omega), ?_⟩
    cases hc : decDigits U with
    | nil => rw [hc] at hlen; simp at hlen
    | cons c r =>
      refine ⟨c, r, rfl, fun e => ?_⟩
      have := hD c (by rw [hc]; exact List.mem_cons_self)
      rw [e] at this
      have h2 := this.1
      revert h2
      decide
/-- Parse reads the text back -/
theorem ftext_reads (neg : Bool) (U d : Nat) (hd : d ≤ 12) (hl : (decDigits U).length ≤ 30 + d) : pOk (pneg (ftext neg U d)) (pbody (ftext neg U d)) ∧ pqv (ftext neg U d) = rq neg U (10 ^ d) := by
  obtain ⟨h, t, e1, e2, hg, htl, hdv, htd, hhl, c, r, e3, hc⟩ := fbody_parts U d hd
  have hn : pneg (ftext neg U d) = decide (neg = true ∧ 0 < U) ∧ pbody (ftext neg U d) = fbody d (decDigits U) := by
    unfold ftext
    by_cases hx : neg = true ∧ 0 < U
    · rw [if_pos hx, decide_eq_true hx]
      exact ⟨rfl, rfl⟩
    · rw [if_neg hx, decide_eq_false hx, e3]
      have hp : pneg (c :: r) = false := by
        unfold pneg
        exact beq_eq_false_iff_ne.2 (fun e => hc (Option.some.inj e))
      exact ⟨hp, if_neg (by rw [hp]; simp)⟩
  have hok : pOk (pneg (ftext neg U d)) (pbody (ftext neg U d)) := by
    rw [hn.1, hn.2]
    refine ⟨by rw [e1]; exact hg, by rw [e1]; omega, fun k => by rw [e2]; exact htd k, ?_⟩
    rw [e1, e2, hdv]
    rintro ⟨k1, k2⟩
    have := (of_decide_eq_true k1).2
    omega
  refine ⟨hok, ?_⟩
  rw [pqv_ok hok, hn.1, hn.2, e1, e2, hdv, htl]
  by_cases hx : neg = true ∧ 0 < U
  · rw [decide_eq_true hx, hx.1]
  · rw [decide_eq_false hx]
    cases neg with
    | false => rfl
    | true =>
      obtain rfl : U = 0 := by
        rcases Nat.eq_zero_or_pos U with z | z
        · exact z
        · exact absurd ⟨rfl, z⟩ hx
      unfold rq sg
      rfl
end Go.Proofs.YtobiepkhommeaaaGreatDoor
/- Printed rational numbers: Format of both. -/
namespace Go.Proofs.YtobiepkhommeaaaGreatDoor
open Go.RowKit

theorem ru_up {N D T : Nat} (hD : 0 < D) : ru N D T ≤ N * T + 1 := by
  unfold ru
  refine Nat.div_le_of_le_mul ?_
  have h1 : N * T * 1 ≤ N * T * D := Nat.mul_le_mul_left _ hD
  have h2 : D * 2 * (N * T + 1) = N * T * D * 2 + D * 2 := by grind
  omega
theorem pw12 : pw 12 < 10 ^ 117 := by unfold pw; decide +kernel
/-- the units of a cut number have few digits -/
theorem units_len {w : World} {s : Bool} {ao : Option Addr} {n ca : Nat} {bo : Option Addr} {m cb : Nat} {q : Rat} {j : Nat} (h : RQ w s ao n ca bo m cb q 12) (hj : j ≤ 12) : ru (rn q) q.den (10 ^ j) < 10 ^ 131 := by
  obtain ⟨N, D, _, _, sn, _, hq, _⟩ := h
  have h1 : rn q ≤ N := by
    rw [← hq, rn_rq (dn_pos D)]
    exact Nat.div_le_self _ _
  have h2 := @ru_up (rn q) q.den (10 ^ j) q.den_pos
  have h3 : rn q < 10 ^ 117 := Nat.lt_of_le_of_lt h1 (Nat.lt_trans sn.1 pw12)
  have h4 : (10 : Nat) ^ j ≤ 10 ^ 12 := Nat.pow_le_pow_right (by omega) hj
  have h5 : rn q * 10 ^ j ≤ 10 ^ 117 * 10 ^ 12 := Nat.mul_le_mul (Nat.le_of_lt h3) h4
  omega
theorem repeat_v (c : Nat) (w : World) (hc : c ≤ 100) :
    Calls Tryz.prog 109 #[.string ⟨#[48]⟩, .int .i64 (c : Int)] w fun e w' => e = .returned (.string ⟨(List.replicate c 48).toArray⟩) ∧ Below w.heap.size w w' := by
  have h := Tryz.strings_Repeat ⟨#[48]⟩ c w (by omega) (by show 1 * c ≤ _; omega)
  rw [show (ByteArray.mk #[48]).data.toList = [48] from rfl, repeat_zero] at h
  exact h
def txtB (l : List UInt8) : ByteArray := ⟨l.toArray⟩
theorem txtB_size (l : List UInt8) : (txtB l).size = l.length := by simp [txtB, ByteArray.size]
theorem txtB_list (l : List UInt8) : (txtB l).data.toList = l := by simp [txtB]
/-- the text with its point, from the padded digits -/
theorem join_text {P : ByteArray} {d pt : Nat} {D : List UInt8} (hP : P.data.toList = fpad d D) (hd : 0 < d) (hpt : pt = fpt d D) : P.extract 0 pt ++ ⟨#[46]⟩ ++ P.extract pt P.size = txtB (fbody d D) := by
  apply bytes_ext
  rw [txtB_list]
  unfold fbody
  rw [if_pos hd, ← hpt, ← hP]
  have h1 := list_take P pt
  have h2 := list_drop P pt
  simp only [ByteArray.toList_data_append, h1, h2] 
  simp

theorem neg_text {s : Bool} {U j : Nat} (h : s = true ∧ 0 < U) : ⟨#[45]⟩ ++ txtB (fbody j (Lib.decDigits U)) = txtB (ftext s U j) := by
  apply bytes_ext
  unfold ftext
  rw [if_pos h, txtB_list]
  have h1 : ((⟨#[45]⟩ : ByteArray) ++ txtB (fbody j (Lib.decDigits U))).data.toList = [45] ++ (txtB (fbody j (Lib.decDigits U))).data.toList := by simp
  rw [h1, txtB_list]
  rfl
theorem pos_text {s : Bool} {U j : Nat} (h : ¬ (s = true ∧ 0 < U)) : txtB (fbody j (Lib.decDigits U)) = txtB (ftext s U j) := by
  unfold ftext
  rw [if_neg h]
def szOf : Value → Nat
  | .string b => b.size
  | _ => 0
theorem ret_st {a b : ByteArray} (h : a = b) : Ending.returned (.string a) = .returned (.string b) := by rw [h]

set_option maxHeartbeats 8000000 in
set_option maxRecDepth 100000 in
theorem qFormat_v (s : Bool) (ao bo : Option Addr) (n ca m cb : Nat) (q : Rat) (i : Int) (j : Nat) (w : World) (h : RQ w s ao n ca bo m cb q 12) (hi : min (max i 0) 12 = (j : Int)) (htab : Tab w) :
    Calls Tryz.prog 61 #[.agg #[.bool s, .slice ao n ca, .slice bo m cb], .int .i64 i] w fun e w' => e = .returned (.string (txtB (ftext s (ru (rn q) q.den (10 ^ j)) j))) ∧ Below w.heap.size w w' := by
  have hj : j ≤ 12 := by omega
  have B0 := below_new w (.cells #[.bool s, .slice ao n ca, .slice bo m cb] 25)
  have Z0 := heap_alloc_new w (.cells #[.bool s, .slice ao n ca, .slice bo m cb] 25)
  obtain ⟨W1, hW1⟩ : ∃ W, W = w.alloc (.cells #[.bool s, .slice ao n ca, .slice bo m cb] 25) := ⟨_, rfl⟩
  rw [← hW1] at B0 Z0
  have hs1 : w.heap.size < W1.heap.size := by rw [hW1, World.size_alloc]; omega
  have R1 := h.below B0
  obtain ⟨U, hU⟩ : ∃ U, U = ru (rn q) q.den (10 ^ j) := ⟨_, rfl⟩
  have hUl : U < 10 ^ 131 := by rw [hU]; exact units_len h hj
  obtain ⟨D, hD⟩ : ∃ D, D = Lib.decDigits U := ⟨_, rfl⟩
  obtain ⟨DS, hDS⟩ : ∃ S, S = txtB D := ⟨_, rfl⟩
  have hz1 : D.length ≤ 131 := by rw [hD]; exact dec_len (k := 130) hUl
  have hz0 : 1 ≤ D.length := by rw [hD]; exact dec_pos U
  have hzs : DS.size = D.length := by rw [hDS, txtB_size]
  have DC : Hid (∀ w, Calls Tryz.prog 106 #[.int .i64 i] w fun e w' => e = .returned (.int .i64 (j : Int)) ∧ w = w') := fun w => decimals_num i j hi w
  have SC : Hid (∀ w', Below W1.heap.size W1 w' → Calls Tryz.prog 107 #[.agg #[.bool s, .slice ao n ca, .slice bo m cb], .int .i64 (j : Int)] w' fun e w2 => Makes U w' e w2 ∧ Sm U 312) := fun w' hb => scaled_qi s ao bo n ca m cb 12 j q w' (R1.below hb) (by omega) (by omega) _ rfl U hU.symm
  have NF : Hid (∀ w' a n c, Below w.heap.size w w' → Num w' a n c U → Calls Tryz.prog 108 #[.slice a n c] w' fun e w2 => e = .returned (.string DS) ∧ Below w'.heap.size w' w2) := fun w' a n c hb hn => by
    rw [hDS, hD]; exact Format_num hn (htab.below hb)
  obtain ⟨RP, hRP⟩ : ∃ S, S = txtB (List.replicate (j + 1 - D.length) 48) := ⟨_, rfl⟩
  obtain ⟨r, hr⟩ : ∃ r, r = j + 1 - D.length := ⟨_, rfl⟩
  have RC : Hid (∀ w, Calls Tryz.prog 109 #[.string ⟨#[48]⟩, .int .i64 (r : Int)] w fun e w' => e = .returned (.string RP) ∧ Below w.heap.size w w') := fun w => by
    rw [hRP, ← hr]; exact repeat_v r w (by omega)
  have hcB : RP.size + DS.size ≤ 9223372036854775807 := by
    have h1 : RP.size = j + 1 - D.length := by rw [hRP, txtB_size, List.length_replicate]
    omega
  have hmx : max 0 ((j : Int) + 1 - (DS.size : Int)) = (r : Int) := by omega
  have hwa : IntKind.i64.wrap ((j : Int) + 1) = (j : Int) + 1 := IntWalk.i64_in _ (by omega)
  have hwb : IntKind.i64.wrap ((j : Int) + 1 - (DS.size : Int)) = (j : Int) + 1 - (DS.size : Int) := IntWalk.i64_in _ (by omega)
  have HPL : Hid ((RP ++ DS).data.toList = fpad j D) := by
    have h1 : (RP ++ DS).data.toList = RP.data.toList ++ DS.data.toList := by simp
    unfold Hid
    rw [h1, hRP, hDS, txtB_list, txtB_list]; rfl
  obtain ⟨nl, hnl⟩ : ∃ l, l = (dig U).length := ⟨_, rfl⟩
  have hnu : 0 < nl ↔ 0 < U := by
    rw [hnl]
    constructor
    · intro k
      rcases Nat.eq_zero_or_pos U with z | z
      · rw [z, dig_zero] at k; simp at k
      · exact z
    · exact fun k => dig_length_pos k
  have HNL := Lib.hid hnl
  have HFT : Hid (∀ B : ByteArray, B = txtB (fbody j D) → (s = true ∧ 0 < U → ⟨#[45]⟩ ++ B = txtB (ftext s (ru (rn q) q.den (10 ^ j)) j)) ∧ (¬ (s = true ∧ 0 < U) → B = txtB (ftext s (ru (rn q) q.den (10 ^ j)) j))) := fun B hB => by
    rw [← hU, hB, hD]
    exact ⟨neg_text, pos_text⟩
  obtain ⟨FT, hFT⟩ : ∃ B, B = txtB (ftext s (ru (rn q) q.den (10 ^ j)) j) := ⟨_, rfl⟩
  unfold Hid at HFT
  rw [← hFT] at HFT ⊢
  have HFT := Lib.hid HFT
  have HZ := Lib.hid Z0
  have HB0 := Lib.hid B0
  have HDL := Lib.hid hDS
  have HZS := Lib.hid hzs
  have hcA : 1 + DS.size ≤ 9223372036854775807 := by omega
  have HNU := Lib.hid hnu
  obtain ⟨x0, x1, x2, _⟩ := at_block Z0
  clear h hi R1 hU hUl hD Z0 B0 hFT hnl hnu hDS hzs htab hr hRP
  go_enter Tryz.func61, Tryz.ntmps61
  go_wp2_with fail
  rw [← hW1]
  clear hW1
  refine (DC.out _).mono ?_; rintro e w' ⟨rfl, rfl⟩
  go_wp2_with fail
  refine (SC.out W1 (Below.refl _ _)).mono ?_; rintro e W2 ⟨⟨a2, c2, rfl, f2, b2⟩, sm2⟩
  rw [← HNL.out]
  have N2 := Num.of_fr f2 sm2
  rw [← HNL.out] at N2
  have B2 := HB0.out.trans (b2.mono HB0.out.size)
  have t2 := (b2.block _ hs1).trans HZ.out
  have hs2 := Nat.lt_of_lt_of_le hs1 b2.size
  clear f2 sm2 x0 x1 x2 b2
  go_wp2_with fail
  refine (NF.out W2 _ _ _ B2 N2).mono ?_; rintro e W3 ⟨rfl, b3⟩
  have B3 := Lib.hid (B2.trans (b3.mono B2.size))
  have t3 := (b3.block _ hs2).trans t2
  have hs3 := Nat.lt_of_lt_of_le hs2 b3.size
  have HT3 := Lib.hid t3
  clear b3 t2 t3 N2 B2
  by_cases h0 : j = 0
  · have h0I : ¬ (0 : Int) < (j : Int) := by omega
    obtain ⟨x0, x1, x2, _⟩ := at_block (show W3.heap[w.heap.size]? = _ from HT3.out)
    have HV := Lib.hid (HFT.out DS (by rw [HDL.out, h0]; rfl))
    by_cases hn : s = true ∧ 0 < U
    · have HE := Lib.hid (HV.out.1 hn)
      have hnI : (0 : Int) < (nl : Int) := by have := HNU.out.2 hn.2; omega
      have hst := hn.1
      clear hn HV
      subst hst
      go_wp2_with fail
      go_ret
      exact ⟨ret_st HE.out, B3.out⟩
    · have HE := Lib.hid (HV.out.2 hn)
      have hc : s = false ∨ s = true ∧ ¬ (0 : Int) < (nl : Int) := by
        cases hs : s with
        | false => exact .inl rfl
        | true => exact .inr ⟨rfl, fun k => hn ⟨hs, HNU.out.1 (by omega)⟩⟩
      clear hn HV
      rcases hc with hst | ⟨hst, hnI⟩
      all_goals
        subst hst
        go_wp2_with fail
        go_ret
        exact ⟨ret_st HE.out, B3.out⟩
  · have h0I : (0 : Int) < (j : Int) := by omega
    have h0N : 0 < j := by omega
    go_wp2_with fail
    refine (RC.out _).mono ?_; rintro e W4 ⟨rfl, b4⟩
    have B4 := Lib.hid (B3.out.trans (b4.mono B3.out.size))
    have HT4 := Lib.hid ((b4.block _ hs3).trans HT3.out)
    clear b4
    go_upto_region 6 with fail
    have hPs : (RP ++ DS).size = (fpad j D).length := by rw [← HPL.out, size_list]
    have hPf := fpad_length j D
    generalize hP : RP ++ DS = P
    rw [hP] at hPs HPL
    obtain ⟨pt, hpt⟩ : ∃ p : Nat, p = fpt j D := ⟨_, rfl⟩
    have hpt2 : pt = P.size - j := by rw [hpt, hPs]; rfl
    have hPj : j + 1 ≤ P.size := by omega
    have hpI : (P.size : Int) - (j : Int) = (pt : Int) := by omega
    have hpw : IntKind.i64.wrap ((P.size : Int) - (j : Int)) = (pt : Int) := by rw [IntWalk.i64_in _ (by omega)]; exact hpI
    have hp1 : (pt : Int) ≤ (P.size : Int) := by omega
    have hp2 : pt ≤ P.size := by omega
    have HPT := Lib.hid hpt
    have hpw2 : IntKind.i64.wrap (pt : Int) = (pt : Int) := IntWalk.i64_in _ (by omega)
    have hx0 : (P.extract 0 pt).size = pt := by rw [ByteArray.size_extract]; omega
    have hx1 : (P.extract pt P.size).size = P.size - pt := by rw [ByteArray.size_extract]; omega
    have hx2 : (P.extract 0 pt ++ ⟨#[46]⟩ ++ P.extract pt P.size).size ≤ 1000 := by
      rw [ByteArray.size_append, ByteArray.size_append, hx0, hx1, show (⟨#[46]⟩ : ByteArray).size = 1 from rfl]; omega
    have hx3 : pt + 1 ≤ 9223372036854775807 := by omega
    have hx6 : P.size ≤ 1000 := by omega
    have hx4 : pt + 1 + (P.size - pt) ≤ 9223372036854775807 := by omega
    have hx5 : 1 + (pt + 1 + (P.size - pt)) ≤ 9223372036854775807 := by omega
    clear hP hpt hpt2 hPf hPs hmx hwa hwb
    go_wp2_with fail
    refine wp_region_held_drew (S := fun w' => Below W4.heap.size W4 w') (by kernel_rfl) ((Below.refl _ _).drew) (fun hH => ?_)
    refine wpAnyH_take (i := 0) (v := (.string P)) rfl (by kernel_rfl) (by kernel_rfl) (by kernel_rfl) (fun _ _ _ h => h) (Or.inl ⟨by kernel_rfl, ?_⟩) hH ?_
    · intro w1 hB
      go_simp
    change wpAnyH _ _ _ _ _ _ _ (Act.put _ (some 31) _) _
    try simp only [Act.put, List.setIfInBounds_toArray, List.set_cons_zero, List.set_cons_succ]
    refine wpAnyH_take (i := 1) (v := (.int .i64 (pt : Int))) rfl (by kernel_rfl) (by kernel_rfl) (by kernel_rfl) (fun _ _ _ h => h) (Or.inl ⟨by kernel_rfl, ?_⟩) hH ?_
    · intro w1 hB
      go_simp
    change wpAnyH _ _ _ _ _ _ _ (Act.put _ (some 32) _) _
    try simp only [Act.put, List.setIfInBounds_toArray, List.set_cons_zero, List.set_cons_succ]
    refine wpAnyH_take (i := 2) (v := (.string (P.extract 0 pt))) rfl (by kernel_rfl) (by kernel_rfl) (by kernel_rfl) (fun _ _ _ h => h) (Or.inl ⟨by kernel_rfl, ?_⟩) hH ?_
    · intro w1 hB
      go_simp
    change wpAnyH _ _ _ _ _ _ _ (Act.put _ (some 33) _) _
    try simp only [Act.put, List.setIfInBounds_toArray, List.set_cons_zero, List.set_cons_succ]
    refine wpAnyH_take (i := 3) (v := (.string (P.extract 0 pt ++ ⟨#[46]⟩))) rfl (by kernel_rfl) (by kernel_rfl) (by kernel_rfl) (fun _ _ _ h => h) (Or.inl ⟨by kernel_rfl, ?_⟩) hH ?_
    · intro w1 hB
      go_simp
    change wpAnyH _ _ _ _ _ _ _ (Act.put _ (some 34) _) _
    try simp only [Act.put, List.setIfInBounds_toArray, List.set_cons_zero, List.set_cons_succ]
    refine wpAnyH_take (i := 4) (v := (.string P)) rfl (by kernel_rfl) (by kernel_rfl) (by kernel_rfl) (fun _ _ _ h => h) (Or.inl ⟨by kernel_rfl, ?_⟩) hH ?_
    · intro w1 hB
      go_simp
    change wpAnyH _ _ _ _ _ _ _ (Act.put _ (some 35) _) _
    try simp only [Act.put, List.setIfInBounds_toArray, List.set_cons_zero, List.set_cons_succ]
    refine wpAnyH_take (i := 5) (v := (.int .i64 (pt : Int))) rfl (by kernel_rfl) (by kernel_rfl) (by kernel_rfl) (fun _ _ _ h => h) (Or.inl ⟨by kernel_rfl, ?_⟩) hH ?_
    · intro w1 hB
      go_simp
    change wpAnyH _ _ _ _ _ _ _ (Act.put _ (some 36) _) _
    try simp only [Act.put, List.setIfInBounds_toArray, List.set_cons_zero, List.set_cons_succ]
    refine wpAnyH_take (i := 6) (v := (.string (P.extract pt P.size))) rfl (by kernel_rfl) (by kernel_rfl) (by kernel_rfl) (fun _ _ _ h => h) (Or.inl ⟨by kernel_rfl, ?_⟩) hH ?_
    · intro w1 hB
      go_simp
    change wpAnyH _ _ _ _ _ _ _ (Act.put _ (some 37) _) _
    try simp only [Act.put, List.setIfInBounds_toArray, List.set_cons_zero, List.set_cons_succ]
    refine wpAnyH_take (i := 7) (v := (.string (P.extract 0 pt ++ ⟨#[46]⟩ ++ P.extract pt P.size))) rfl (by kernel_rfl) (by kernel_rfl) (by kernel_rfl) (fun _ _ _ h => h) (Or.inl ⟨by kernel_rfl, ?_⟩) hH ?_
    · intro w1 hB
      go_simp
    change wpAnyH _ _ _ _ _ _ _ (Act.put _ (some 38) _) _
    try simp only [Act.put, List.setIfInBounds_toArray, List.set_cons_zero, List.set_cons_succ]
    refine wpAnyH_take (i := 8) (v := (.string (P.extract 0 pt ++ ⟨#[46]⟩ ++ P.extract pt P.size))) rfl (by kernel_rfl) (by kernel_rfl) (by kernel_rfl) (fun _ _ _ h => h) (Or.inl ⟨by kernel_rfl, ?_⟩) hH ?_
    · intro w1 hB
      go_simp
    change wpAnyH _ _ _ _ _ _ _ (Act.put _ (some 7) _) _
    try simp only [Act.put, List.setIfInBounds_toArray, List.set_cons_zero, List.set_cons_succ]
    refine wpAnyH_done (by kernel_rfl) ?_ _
    obtain ⟨x0, x1, x2, _⟩ := at_block (show W4.drew.heap[w.heap.size]? = _ from HT4.out)
    have HV := Lib.hid (HFT.out _ (join_text HPL.out h0N HPT.out))
    by_cases hn : s = true ∧ 0 < U
    · have HE := Lib.hid (HV.out.1 hn)
      have hnI : (0 : Int) < (nl : Int) := by have := HNU.out.2 hn.2; omega
      have hst := hn.1
      clear hn HV
      subst hst
      go_wp2_with fail
      go_ret
      exact ⟨ret_st HE.out, B4.out.drew⟩
    · have HE := Lib.hid (HV.out.2 hn)
      have hc : s = false ∨ s = true ∧ ¬ (0 : Int) < (nl : Int) := by
        cases hs : s with
        | false => exact .inl rfl
        | true => exact .inr ⟨rfl, fun k => hn ⟨hs, HNU.out.1 (by omega)⟩⟩
      clear hn HV
      rcases hc with hst | ⟨hst, hnI⟩
      all_goals
        subst hst
        go_wp2_with fail
        go_ret
        exact ⟨ret_st HE.out, B4.out.drew⟩

set_option maxHeartbeats 8000000 in
set_option maxRecDepth 100000 in
theorem rqFormat_v (s : Bool) (ao bo : Option Addr) (n ca m cb : Nat) (q : Rat) (i : Int) (j : Nat) (w : World) (h : RQ w s ao n ca bo m cb q 12) (hi : min (max i 0) 12 = (j : Int)) :
    Calls Tryz.prog 40 #[.agg #[.bool s, .slice ao n ca, .slice bo m cb], .int .i64 i] w fun e w' => e = .returned (.string (txtB (ftext s (ru (rn q) q.den (10 ^ j)) j))) ∧ Below w.heap.size w w' := by
  have hj : j ≤ 12 := by omega
  have B0 := below_new w (.cells #[.bool s, .slice ao n ca, .slice bo m cb] 25)
  have Z0 := heap_alloc_new w (.cells #[.bool s, .slice ao n ca, .slice bo m cb] 25)
  obtain ⟨W1, hW1⟩ : ∃ W, W = w.alloc (.cells #[.bool s, .slice ao n ca, .slice bo m cb] 25) := ⟨_, rfl⟩
  rw [← hW1] at B0 Z0
  have hs1 : w.heap.size < W1.heap.size := by rw [hW1, World.size_alloc]; omega
  have R1 := h.below B0
  obtain ⟨U, hU⟩ : ∃ U, U = ru (rn q) q.den (10 ^ j) := ⟨_, rfl⟩
  have hUl : U < 10 ^ 131 := by rw [hU]; exact units_len h hj
  obtain ⟨D, hD⟩ : ∃ D, D = Lib.decDigits U := ⟨_, rfl⟩
  obtain ⟨DS, hDS⟩ : ∃ S, S = txtB D := ⟨_, rfl⟩
  have hz1 : D.length ≤ 131 := by rw [hD]; exact dec_len (k := 130) hUl
  have hz0 : 1 ≤ D.length := by rw [hD]; exact dec_pos U
  have hzs : DS.size = D.length := by rw [hDS, txtB_size]
  have DC : Hid (∀ w, Calls Tryz.prog 87 #[.int .i64 i] w fun e w' => e = .returned (.int .i64 (j : Int)) ∧ w = w') := fun w => Clamp_num i j hi w
  have SC : Hid (∀ w', Below W1.heap.size W1 w' → Calls Tryz.prog 88 #[.agg #[.bool s, .slice ao n ca, .slice bo m cb], .int .i64 (j : Int)] w' fun e w2 => Makes U w' e w2 ∧ Sm U 312) := fun w' hb => by
    rw [hU]; exact units_q s ao bo n ca m cb 12 j q w' (R1.below hb) (by omega) hj
  have hrl : (rl U).length ≤ 1001 := Nat.le_trans (rl_length 130 U hUl) (by omega)
  have NF : Hid (∀ w' a n c, Below w.heap.size w w' → Num w' a n c U → Calls Tryz.prog 71 #[.slice a n c] w' fun e w2 => e = .returned (.string DS) ∧ Below w'.heap.size w' w2) := fun w' a n c _ hn => by
    rw [hDS, hD]; exact rFormat_num hn hrl
  obtain ⟨r, hr⟩ : ∃ r, r = j + 1 - D.length := ⟨_, rfl⟩
  have HRR := Lib.hid hr
  clear hrl
  obtain ⟨nl, hnl⟩ : ∃ l, l = (dig U).length := ⟨_, rfl⟩
  have hnu : 0 < nl ↔ 0 < U := by
    rw [hnl]
    constructor
    · intro k
      rcases Nat.eq_zero_or_pos U with z | z
      · rw [z, dig_zero] at k; simp at k
      · exact z
    · exact fun k => dig_length_pos k
  have HNL := Lib.hid hnl
  have HFT : Hid (∀ B : ByteArray, B = txtB (fbody j D) → (s = true ∧ 0 < U → ⟨#[45]⟩ ++ B = txtB (ftext s (ru (rn q) q.den (10 ^ j)) j)) ∧ (¬ (s = true ∧ 0 < U) → B = txtB (ftext s (ru (rn q) q.den (10 ^ j)) j))) := fun B hB => by
    rw [← hU, hB, hD]
    exact ⟨neg_text, pos_text⟩
  obtain ⟨FT, hFT⟩ : ∃ B, B = txtB (ftext s (ru (rn q) q.den (10 ^ j)) j) := ⟨_, rfl⟩
  unfold Hid at HFT
  rw [← hFT] at HFT ⊢
  have HFT := Lib.hid HFT
  have HZ := Lib.hid Z0
  have HB0 := Lib.hid B0
  have HDL := Lib.hid hDS
  have HZS := Lib.hid hzs
  have hcA : 1 + DS.size ≤ 9223372036854775807 := by omega
  have HNU := Lib.hid hnu
  obtain ⟨x0, x1, x2, _⟩ := at_block Z0
  clear h hi R1 hU hUl hD Z0 B0 hFT hnl hnu hDS hzs
  go_enter Tryz.func40, Tryz.ntmps40
  go_wp2_with fail
  rw [← hW1]
  clear hW1
  refine (DC.out _).mono ?_; rintro e w' ⟨rfl, rfl⟩
  go_wp2_with fail
  refine (SC.out W1 (Below.refl _ _)).mono ?_; rintro e W2 ⟨⟨a2, c2, rfl, f2, b2⟩, sm2⟩
  rw [← HNL.out]
  have N2 := Num.of_fr f2 sm2
  rw [← HNL.out] at N2
  have B2 := HB0.out.trans (b2.mono HB0.out.size)
  have t2 := (b2.block _ hs1).trans HZ.out
  have hs2 := Nat.lt_of_lt_of_le hs1 b2.size
  clear f2 sm2 x0 x1 x2 b2
  go_wp2_with fail
  refine (NF.out W2 _ _ _ B2 N2).mono ?_; rintro e W3 ⟨rfl, b3⟩
  have B3 := Lib.hid (B2.trans (b3.mono B2.size))
  have t3 := (b3.block _ hs2).trans t2
  have hs3 := Nat.lt_of_lt_of_le hs2 b3.size
  have HT3 := Lib.hid t3
  clear b3 t2 t3 N2 B2
  go_wp2_with fail
  go_loopw [7] (fun s7 wr => ∃ (k : Nat) (T : ByteArray), k ≤ r ∧ s7 = .string T ∧ Hid (T.data.toList = List.replicate k 48 ++ D) ∧ wr = W3) (fun s7 _ => r + D.length - szOf s7)
  case atStart => exact ⟨0, DS, by omega, rfl, (by unfold Hid; rw [HDL.out, txtB_list]; rfl), by trivial⟩
  case round =>
    obtain ⟨k, T, hk, rfl, hT, rfl⟩ := hrel
    have hTs : T.size = k + D.length := by rw [← size_list, hT.out, List.length_append, List.length_replicate]
    have hrr := HRR.out
    by_cases hlt : T.size ≤ j
    · have hltI : (T.size : Int) ≤ (j : Int) := by omega
      have HN : Hid (((⟨#[48]⟩ : ByteArray) ++ T).data.toList = List.replicate (k + 1) 48 ++ D) := by
        have h1 : ((⟨#[48]⟩ : ByteArray) ++ T).data.toList = [48] ++ T.data.toList := by simp
        unfold Hid
        rw [h1, hT.out, List.replicate_succ]; rfl
      have hsz : ((⟨#[48]⟩ : ByteArray) ++ T).size = T.size + 1 := by rw [ByteArray.size_append, show (⟨#[48]⟩ : ByteArray).size = 1 from rfl]; omega
      have HSZ := Lib.hid hsz
      clear hsz hrr
      go_wp2_with fail
      go_roundw
      case rel => exact ⟨k + 1, _, by have := HRR.out; omega, rfl, HN, by trivial⟩
      case measure =>
        show r + D.length - ((⟨#[48]⟩ : ByteArray) ++ T).size < r + D.length - T.size
        have := HSZ.out
        have := HRR.out
        omega
    · have hltI : ¬ (T.size : Int) ≤ (j : Int) := by omega
      have hkr : k = r := by omega
      have HPL : Hid (T.data.toList = fpad j D) := by
        unfold Hid
        rw [hT.out, hkr, hrr]; rfl
      by_cases h0 : j = 0
      · have h0I : ¬ (0 : Int) < (j : Int) := by omega
        have hk0 : k = 0 := by omega
        have HT0 : Hid (T = txtB (fbody j D)) := by
          refine bytes_ext ?_
          rw [hT.out, txtB_list, h0, hk0]; rfl
        clear hkr hrr hk0
        obtain ⟨x0, x1, x2, _⟩ := at_block (show wr.heap[w.heap.size]? = _ from HT3.out)
        have HV := Lib.hid (HFT.out _ (HT0.out))
        by_cases hn : s = true ∧ 0 < U
        · have HE := Lib.hid (HV.out.1 hn)
          have hnI : (0 : Int) < (nl : Int) := by have := HNU.out.2 hn.2; omega
          have hst := hn.1
          clear hn HV
          subst hst
          go_wp2_with fail
          go_ret
          exact ⟨ret_st HE.out, B3.out⟩
        · have HE := Lib.hid (HV.out.2 hn)
          have hc : s = false ∨ s = true ∧ ¬ (0 : Int) < (nl : Int) := by
            cases hs : s with
            | false => exact .inl rfl
            | true => exact .inr ⟨rfl, fun k => hn ⟨hs, HNU.out.1 (by omega)⟩⟩
          clear hn HV
          rcases hc with hst | ⟨hst, hnI⟩
          all_goals
            subst hst
            go_wp2_with fail
            go_ret
            exact ⟨ret_st HE.out, B3.out⟩
      · have h0I : (0 : Int) < (j : Int) := by omega
        have h0N : 0 < j := by omega
        have hPs : T.size = (fpad j D).length := by rw [← HPL.out, size_list]
        have hPf := fpad_length j D
        obtain ⟨pt, hpt⟩ : ∃ p : Nat, p = fpt j D := ⟨_, rfl⟩
        have hpt2 : pt = T.size - j := by rw [hpt, hPs]; rfl
        have hpI : (T.size : Int) - (j : Int) = (pt : Int) := by omega
        have hpw : IntKind.i64.wrap ((T.size : Int) - (j : Int)) = (pt : Int) := by rw [IntWalk.i64_in _ (by omega)]; exact hpI
        have hp1 : (pt : Int) ≤ (T.size : Int) := by omega
        have hp2 : pt ≤ T.size := by omega
        have HPT := Lib.hid hpt
        have hpw2 : IntKind.i64.wrap (pt : Int) = (pt : Int) := IntWalk.i64_in _ (by omega)
        have hx0 : (T.extract 0 pt).size = pt := by rw [ByteArray.size_extract]; omega
        have hx1 : (T.extract pt T.size).size = T.size - pt := by rw [ByteArray.size_extract]; omega
        have hx2 : (T.extract 0 pt ++ ⟨#[46]⟩ ++ T.extract pt T.size).size ≤ 1000 := by
          rw [ByteArray.size_append, ByteArray.size_append, hx0, hx1, show (⟨#[46]⟩ : ByteArray).size = 1 from rfl]; omega
        have hx3 : pt + 1 ≤ 9223372036854775807 := by omega
        have hx6 : T.size ≤ 1000 := by omega
        have hx4 : pt + 1 + (T.size - pt) ≤ 9223372036854775807 := by omega
        have hx5 : 1 + (pt + 1 + (T.size - pt)) ≤ 9223372036854775807 := by omega
        clear hpt hpt2 hPf hPs hkr hrr hTs hT
        go_wp2_with fail
        refine wp_region_held_drew (S := fun w' => Below wr.heap.size wr w') (by kernel_rfl) ((Below.refl _ _).drew) (fun hH => ?_)
        refine wpAnyH_take (i := 0) (v := (.string T)) rfl (by kernel_rfl) (by kernel_rfl) (by kernel_rfl) (fun _ _ _ h => h) (Or.inl ⟨by kernel_rfl, ?_⟩) hH ?_
        · intro w1 hB
          go_simp
        change wpAnyH _ _ _ _ _ _ _ (Act.put _ (some 23) _) _
        try simp only [Act.put, List.setIfInBounds_toArray, List.set_cons_zero, List.set_cons_succ]
        refine wpAnyH_take (i := 1) (v := (.string T)) rfl (by kernel_rfl) (by kernel_rfl) (by kernel_rfl) (fun _ _ _ h => h) (Or.inl ⟨by kernel_rfl, ?_⟩) hH ?_
        · intro w1 hB
          go_simp
        change wpAnyH _ _ _ _ _ _ _ (Act.put _ (some 24) _) _
        try simp only [Act.put, List.setIfInBounds_toArray, List.set_cons_zero, List.set_cons_succ]
        refine wpAnyH_take (i := 2) (v := (.int .i64 (T.size : Int))) rfl (by kernel_rfl) (by kernel_rfl) (by kernel_rfl) (fun _ _ _ h => h) (Or.inl ⟨by kernel_rfl, ?_⟩) hH ?_
        · intro w1 hB
          go_simp
        change wpAnyH _ _ _ _ _ _ _ (Act.put _ (some 25) _) _
        try simp only [Act.put, List.setIfInBounds_toArray, List.set_cons_zero, List.set_cons_succ]
        refine wpAnyH_take (i := 3) (v := (.int .i64 (j : Int))) rfl (by kernel_rfl) (by kernel_rfl) (by kernel_rfl) (fun _ _ _ h => h) (Or.inl ⟨by kernel_rfl, ?_⟩) hH ?_
        · intro w1 hB
          go_simp
        change wpAnyH _ _ _ _ _ _ _ (Act.put _ (some 26) _) _
        try simp only [Act.put, List.setIfInBounds_toArray, List.set_cons_zero, List.set_cons_succ]
        refine wpAnyH_take (i := 4) (v := (.int .i64 (pt : Int))) rfl (by kernel_rfl) (by kernel_rfl) (by kernel_rfl) (fun _ _ _ h => h) (Or.inl ⟨by kernel_rfl, ?_⟩) hH ?_
        · intro w1 hB
          go_simp
        change wpAnyH _ _ _ _ _ _ _ (Act.put _ (some 27) _) _
        try simp only [Act.put, List.setIfInBounds_toArray, List.set_cons_zero, List.set_cons_succ]
        refine wpAnyH_take (i := 5) (v := (.string (T.extract 0 pt))) rfl (by kernel_rfl) (by kernel_rfl) (by kernel_rfl) (fun _ _ _ h => h) (Or.inl ⟨by kernel_rfl, ?_⟩) hH ?_
        · intro w1 hB
          go_simp
        change wpAnyH _ _ _ _ _ _ _ (Act.put _ (some 28) _) _
        try simp only [Act.put, List.setIfInBounds_toArray, List.set_cons_zero, List.set_cons_succ]
        refine wpAnyH_take (i := 6) (v := (.string (T.extract 0 pt ++ ⟨#[46]⟩))) rfl (by kernel_rfl) (by kernel_rfl) (by kernel_rfl) (fun _ _ _ h => h) (Or.inl ⟨by kernel_rfl, ?_⟩) hH ?_
        · intro w1 hB
          go_simp
        change wpAnyH _ _ _ _ _ _ _ (Act.put _ (some 29) _) _
        try simp only [Act.put, List.setIfInBounds_toArray, List.set_cons_zero, List.set_cons_succ]
        refine wpAnyH_take (i := 7) (v := (.string T)) rfl (by kernel_rfl) (by kernel_rfl) (by kernel_rfl) (fun _ _ _ h => h) (Or.inl ⟨by kernel_rfl, ?_⟩) hH ?_
        · intro w1 hB
          go_simp
        change wpAnyH _ _ _ _ _ _ _ (Act.put _ (some 30) _) _
        try simp only [Act.put, List.setIfInBounds_toArray, List.set_cons_zero, List.set_cons_succ]
        refine wpAnyH_take (i := 8) (v := (.string T)) rfl (by kernel_rfl) (by kernel_rfl) (by kernel_rfl) (fun _ _ _ h => h) (Or.inl ⟨by kernel_rfl, ?_⟩) hH ?_
        · intro w1 hB
          go_simp
        change wpAnyH _ _ _ _ _ _ _ (Act.put _ (some 31) _) _
        try simp only [Act.put, List.setIfInBounds_toArray, List.set_cons_zero, List.set_cons_succ]
        refine wpAnyH_take (i := 9) (v := (.int .i64 (T.size : Int))) rfl (by kernel_rfl) (by kernel_rfl) (by kernel_rfl) (fun _ _ _ h => h) (Or.inl ⟨by kernel_rfl, ?_⟩) hH ?_
        · intro w1 hB
          go_simp
        change wpAnyH _ _ _ _ _ _ _ (Act.put _ (some 32) _) _
        try simp only [Act.put, List.setIfInBounds_toArray, List.set_cons_zero, List.set_cons_succ]
        refine wpAnyH_take (i := 10) (v := (.int .i64 (j : Int))) rfl (by kernel_rfl) (by kernel_rfl) (by kernel_rfl) (fun _ _ _ h => h) (Or.inl ⟨by kernel_rfl, ?_⟩) hH ?_
        · intro w1 hB
          go_simp
        change wpAnyH _ _ _ _ _ _ _ (Act.put _ (some 33) _) _
        try simp only [Act.put, List.setIfInBounds_toArray, List.set_cons_zero, List.set_cons_succ]
        refine wpAnyH_take (i := 11) (v := (.int .i64 (pt : Int))) rfl (by kernel_rfl) (by kernel_rfl) (by kernel_rfl) (fun _ _ _ h => h) (Or.inl ⟨by kernel_rfl, ?_⟩) hH ?_
        · intro w1 hB
          go_simp
        change wpAnyH _ _ _ _ _ _ _ (Act.put _ (some 34) _) _
        try simp only [Act.put, List.setIfInBounds_toArray, List.set_cons_zero, List.set_cons_succ]
        refine wpAnyH_take (i := 12) (v := (.string (T.extract pt T.size))) rfl (by kernel_rfl) (by kernel_rfl) (by kernel_rfl) (fun _ _ _ h => h) (Or.inl ⟨by kernel_rfl, ?_⟩) hH ?_
        · intro w1 hB
          go_simp
        change wpAnyH _ _ _ _ _ _ _ (Act.put _ (some 35) _) _
        try simp only [Act.put, List.setIfInBounds_toArray, List.set_cons_zero, List.set_cons_succ]
        refine wpAnyH_take (i := 13) (v := (.string (T.extract 0 pt ++ ⟨#[46]⟩ ++ T.extract pt T.size))) rfl (by kernel_rfl) (by kernel_rfl) (by kernel_rfl) (fun _ _ _ h => h) (Or.inl ⟨by kernel_rfl, ?_⟩) hH ?_
        · intro w1 hB
          go_simp
        change wpAnyH _ _ _ _ _ _ _ (Act.put _ (some 36) _) _
        try simp only [Act.put, List.setIfInBounds_toArray, List.set_cons_zero, List.set_cons_succ]
        refine wpAnyH_take (i := 14) (v := (.string (T.extract 0 pt ++ ⟨#[46]⟩ ++ T.extract pt T.size))) rfl (by kernel_rfl) (by kernel_rfl) (by kernel_rfl) (fun _ _ _ h => h) (Or.inl ⟨by kernel_rfl, ?_⟩) hH ?_
        · intro w1 hB
          go_simp
        change wpAnyH _ _ _ _ _ _ _ (Act.put _ (some 7) _) _
        try simp only [Act.put, List.setIfInBounds_toArray, List.set_cons_zero, List.set_cons_succ]
        refine wpAnyH_done (by kernel_rfl) ?_ _
        obtain ⟨x0, x1, x2, _⟩ := at_block (show wr.drew.heap[w.heap.size]? = _ from HT3.out)
        have HV := Lib.hid (HFT.out _ (join_text HPL.out h0N HPT.out))
        by_cases hn : s = true ∧ 0 < U
        · have HE := Lib.hid (HV.out.1 hn)
          have hnI : (0 : Int) < (nl : Int) := by have := HNU.out.2 hn.2; omega
          have hst := hn.1
          clear hn HV
          subst hst
          go_wp2_with fail
          go_ret
          exact ⟨ret_st HE.out, B3.out.drew⟩
        · have HE := Lib.hid (HV.out.2 hn)
          have hc : s = false ∨ s = true ∧ ¬ (0 : Int) < (nl : Int) := by
            cases hs : s with
            | false => exact .inl rfl
            | true => exact .inr ⟨rfl, fun k => hn ⟨hs, HNU.out.1 (by omega)⟩⟩
          clear hn HV
          rcases hc with hst | ⟨hst, hnI⟩
          all_goals
            subst hst
            go_wp2_with fail
            go_ret
            exact ⟨ret_st HE.out, B3.out.drew⟩
end Go.Proofs.YtobiepkhommeaaaGreatDoor
/- Printed rational numbers: the denominator in lowest terms, and how long a text is. -/
namespace Go.Proofs.YtobiepkhommeaaaGreatDoor
open Go.RowKit

theorem CQ.lower {B : Nat} {w : World} {s : Bool} {ao : Option Addr} {n ca : Nat} {bo : Option Addr} {m cb : Nat} {q : Rat} {k : Nat} (h : CQ B w s ao n ca bo m cb q k) : ∃ D, Num w bo m cb D ∧ dn D = q.den := by
  obtain ⟨_, _, h3, _, h5, _, h7⟩ := h
  exact ⟨val (dd q.den), ⟨dd q.den, h3, h5.rd, rfl, Nat.le_trans (dd_len _) h7.len⟩, val_dd (den_pos q)⟩
theorem CQ.upper {B : Nat} {w : World} {s : Bool} {ao : Option Addr} {n ca : Nat} {bo : Option Addr} {m cb : Nat} {q : Rat} {k : Nat} (h : CQ B w s ao n ca bo m cb q k) : Num w ao n ca (rn q) := by
  obtain ⟨_, h2, _, h4, _, h6, _⟩ := h
  rw [h2]; exact Num.of_fr h4 h6

/-- a number below 2^91 has few digits before its point -/
theorem units_short {N D j : Nat} (hD : 0 < D) (h : bl N ≤ bl D + 90) : (Lib.decDigits (ru N D (10 ^ j))).length ≤ 30 + j := by
  have h1 : N < 2 ^ (bl D + 90) := bl_le.1 h
  have hb : 0 < bl D := bl_pos hD
  have h2 := bl_low hb
  have h3 : 2 ^ (bl D + 90) = 2 ^ 91 * 2 ^ (bl D - 1) := by rw [← Nat.pow_add]; congr 1; omega
  have h4 : N < 2 ^ 91 * D := Nat.lt_of_lt_of_le h1 (by rw [h3]; exact Nat.mul_le_mul_left _ h2)
  have hT : 0 < 10 ^ j := Nat.pow_pos (by omega)
  have h5 : ru N D (10 ^ j) < 10 ^ 30 * 10 ^ j := by
    unfold ru
    refine Nat.div_lt_of_lt_mul ?_
    have h6 : (N + 1) * 10 ^ j ≤ 2 ^ 91 * D * 10 ^ j := Nat.mul_le_mul_right _ h4
    have h7 : 2 ^ 91 * D * 10 ^ j + D * 10 ^ j ≤ 10 ^ 30 * D * 10 ^ j := by
      rw [← Nat.add_mul]
      refine Nat.mul_le_mul_right _ ?_
      omega
    have h8 : D * 1 ≤ D * 10 ^ j := Nat.mul_le_mul_left _ hT
    have h9 : D * 2 * (10 ^ 30 * 10 ^ j) = (10 ^ 30 * D * 10 ^ j) * 2 := by grind
    have h10 : (N + 1) * 10 ^ j = N * 10 ^ j + 10 ^ j := by grind
    omega
  rw [← Nat.pow_add] at h5
  have h6 : 30 + j = (29 + j) + 1 := by omega
  rw [h6] at h5 ⊢
  exact dec_len h5
theorem fbody_len (d : Nat) (D : List UInt8) : (fbody d D).length ≤ D.length + d + 2 := by
  unfold fbody
  split
  · have := fpad_length d D
    rw [List.length_append, List.length_cons, List.length_take, List.length_drop]
    omega
  · omega
theorem ftext_len (s : Bool) (U d : Nat) (hd : d ≤ 12) (hU : U < 10 ^ 131) : (txtB (ftext s U d)).size ≤ 1000 := by
  have h1 := fbody_len d (Lib.decDigits U)
  have h2 := dec_len (k := 130) hU
  rw [txtB_size]
  unfold ftext
  split
  · rw [List.length_cons]; omega
  · omega

end Go.Proofs.YtobiepkhommeaaaGreatDoor
