import Derived.Test.YtobiepkhommeaaaDoorPars
import Derived.Test.YtobiepkhommeaaaDoorAwake2
import Derived.Test.YtobiepkhommeaaaDoorTxts6
import Derived.Test.YtobiepkhommeaaaDoorRnds
import Derived.Test.YtobiepkhommeaaaDoorRats
/- Printed rational numbers: the text, and what Parse says of it. -/
namespace Go.Proofs.YtobiepkhommeaaaDoor
open Go.Lib

def fpad (d : Nat) (D : List UInt8) : List UInt8 := List.replicate (d + 1 - D.length) 48 ++ D
theorem fpad_length (d : Nat) (D : List UInt8) : (fpad d D).length = (d + 1 - D.length) + D.length := by unfold fpad; rw [List.length_append, List.length_replicate]
/-- the point's place -/
def fpt (d : Nat) (D : List UInt8) : Nat := (fpad d D).length - d
def fbody (d : Nat) (D : List UInt8) : List UInt8 := if 0 < d then (fpad d D).take (fpt d D) ++ 46 :: (fpad d D).drop (fpt d D) else D
def ftext (neg : Bool) (U d : Nat) : List UInt8 := if neg = true ∧ 0 < U then 45 :: fbody d (decDigits U) else fbody d (decDigits U)
theorem digs_pad (d : Nat) {D : List UInt8} (h : Digs D) : Digs (fpad d D) := fun c hc => by
  rcases List.mem_append.1 hc with h1 | h1
  · rw [List.eq_of_mem_replicate h1]; exact ⟨by decide, by decide⟩
  · exact h c h1
theorem dv_zeros (k : Nat) (D : List UInt8) : dv 0 (List.replicate k 48 ++ D) = dv 0 D := by
  induction k with
  | zero => rfl
  | succ k ih => rw [List.replicate_succ, List.cons_append, dv_cons]; exact ih
theorem digs_ne {D : List UInt8} (h : Digs D) {c : UInt8} (hc : c.toNat < 48) : ∀ j : Nat, D[j]? ≠ some c := fun j e => by
  have hm := List.mem_of_getElem? e
  have := (h c hm).1
  omega
theorem parts_join {h t : List UInt8} (hd : Digs h) : phead (h ++ 46 :: t) = h ∧ prest (h ++ 46 :: t) = 46 :: t ∧ ptail (h ++ 46 :: t) = t := by
  obtain ⟨e1, e2, e3⟩ := parts_at (t := h ++ 46 :: t) (i := h.length) (fun j hj e => by
    rw [List.getElem?_append_left hj] at e
    exact digs_ne hd (by decide) j e) (.inr (by rw [List.getElem?_append_right (Nat.le_refl _)]; simp))
  refine ⟨by rw [e1]; simp, by rw [e2]; simp, by rw [e3]; simp⟩
theorem parts_whole {h : List UInt8} (hd : Digs h) : phead h = h ∧ prest h = [] ∧ ptail h = [] := by
  obtain ⟨e1, e2, e3⟩ := parts_at (t := h) (i := h.length) (fun j _ e => digs_ne hd (by decide) j e) (.inl rfl)
  exact ⟨by rw [e1]; simp, by rw [e2]; simp, by rw [e3]; simp⟩
/-- the text's parts -/
theorem fbody_parts (U d : Nat) (hd : d ≤ 12) : ∃ h t, phead (fbody d (decDigits U)) = h ∧ ptail (fbody d (decDigits U)) = t ∧ Good h ∧ t.length = d ∧ dv 0 (h ++ t) = U ∧ (prest (fbody d (decDigits U)) ≠ [] → Digs t ∧ t ≠ [] ∧ t.length ≤ 12) ∧ (h.length ≤ 1 ∨ h.length + d = (decDigits U).length) ∧
    ∃ c r, fbody d (decDigits U) = c :: r ∧ c ≠ 45 := by
  have hg := good_dec U
  have hD := digs_dec U
  have hU := dv_dec U
  have hlen : 0 < (decDigits U).length := List.length_pos_iff.2 hg.2.1
  unfold fbody
  by_cases h0 : 0 < d
  · rw [if_pos h0]
    have hp := digs_pad d hD
    have hpl := fpad_length d (decDigits U)
    obtain ⟨e1, e2, e3⟩ := parts_join (h := (fpad d (decDigits U)).take (fpt d (decDigits U))) (t := (fpad d (decDigits U)).drop (fpt d (decDigits U))) (hp.take _)
    have htl : ((fpad d (decDigits U)).drop (fpt d (decDigits U))).length = d := by
      rw [List.length_drop]; unfold fpt; omega
    have hhl : ((fpad d (decDigits U)).take (fpt d (decDigits U))).length = fpt d (decDigits U) := by
      rw [List.length_take]; unfold fpt; omega
    have hf1 : 1 ≤ fpt d (decDigits U) := by unfold fpt; omega
    refine ⟨_, _, e1, e3, ⟨hp.take _, ?_, ?_⟩, htl, ?_, fun _ => ⟨hp.drop _, ?_, by omega⟩, ?_, ?_⟩
    · exact List.length_pos_iff.1 (by omega)
    · by_cases hs : (decDigits U).length ≤ d
      · left
        have hk : d + 1 - (decDigits U).length = (d - (decDigits U).length) + 1 := by omega
        have hpt : fpt d (decDigits U) = 1 := by unfold fpt; omega
        rw [hpt]
        unfold fpad
        rw [hk, List.replicate_succ]
        rfl
      · right
        have hk : d + 1 - (decDigits U).length = 0 := by omega
        have hpe : fpad d (decDigits U) = decDigits U := by unfold fpad; rw [hk]; rfl
        rw [hpe]
        rcases hg.2.2 with h1 | h1
        · rw [h1] at hs; simp at hs; omega
        · cases hc : decDigits U with
          | nil => rw [hc] at hlen; simp at hlen
          | cons c r =>
            rw [hc] at h1 hf1
            obtain ⟨k, hk2⟩ : ∃ k, fpt d (c :: r) = k + 1 := ⟨fpt d (c :: r) - 1, by omega⟩
            rw [hk2, List.take_succ_cons]
            exact h1
    · rw [List.take_append_drop]
      unfold fpad
      rw [dv_zeros, hU]
    · exact List.length_pos_iff.1 (by omega)
    · rw [hhl]
      unfold fpt
      omega
    · cases hc : (fpad d (decDigits U)).take (fpt d (decDigits U)) with
      | nil => rw [hc] at hhl; simp at hhl; omega
      | cons c r =>
        refine ⟨c, _, rfl, fun e => ?_⟩
        have := (hp.take (fpt d (decDigits U))) c (by rw [hc]; exact List.mem_cons_self)
        rw [e] at this
        have h2 := this.1
        revert h2
        decide
  · rw [if_neg h0]
    obtain rfl : d = 0 := by omega
    obtain ⟨e1, e2, e3⟩ := parts_whole hD
    refine ⟨_, _, e1, e3, hg, rfl, by rw [List.append_nil]; exact hU, fun h => absurd e2 h, .inr (by omega), ?_⟩
    cases hc : decDigits U with
    | nil => rw [hc] at hlen; simp at hlen
    | cons c r =>
      refine ⟨c, r, rfl, fun e => ?_⟩
      have := hD c (by rw [hc]; exact List.mem_cons_self)
      rw [e] at this
      have h2 := this.1
      revert h2
      decide
/-- Parse reads the text back -/
theorem ftext_reads (neg : Bool) (U d : Nat) (hd : d ≤ 12) (hl : (decDigits U).length ≤ 30 + d) : pOk (pneg (ftext neg U d)) (pbody (ftext neg U d)) ∧ pqv (ftext neg U d) = rq neg U (10 ^ d) := by
  obtain ⟨h, t, e1, e2, hg, htl, hdv, htd, hhl, c, r, e3, hc⟩ := fbody_parts U d hd
  have hn : pneg (ftext neg U d) = decide (neg = true ∧ 0 < U) ∧ pbody (ftext neg U d) = fbody d (decDigits U) := by
    unfold ftext
    by_cases hx : neg = true ∧ 0 < U
    · rw [if_pos hx, decide_eq_true hx]
      exact ⟨rfl, rfl⟩
    · rw [if_neg hx, decide_eq_false hx, e3]
      have hp : pneg (c :: r) = false := by
        unfold pneg
        exact beq_eq_false_iff_ne.2 (fun e => hc (Option.some.inj e))
      exact ⟨hp, if_neg (by rw [hp]; simp)⟩
  have hok : pOk (pneg (ftext neg U d)) (pbody (ftext neg U d)) := by
    rw [hn.1, hn.2]
    refine ⟨by rw [e1]; exact hg, by rw [e1]; omega, fun k => by rw [e2]; exact htd k, ?_⟩
    rw [e1, e2, hdv]
    rintro ⟨k1, k2⟩
    have := (of_decide_eq_true k1).2
    omega
  refine ⟨hok, ?_⟩
  rw [pqv_ok hok, hn.1, hn.2, e1, e2, hdv, htl]
  by_cases hx : neg = true ∧ 0 < U
  · rw [decide_eq_true hx, hx.1]
  · rw [decide_eq_false hx]
    cases neg with
    | false => rfl
    | true =>
      obtain rfl : U = 0 := by
        rcases Nat.eq_zero_or_pos U with z | z
        · exact z
        · exact absurd ⟨rfl, z⟩ hx
      unfold rq sg
      rfl
end Go.Proofs.YtobiepkhommeaaaDoor
/- Printed rational numbers: Format of both. -/
namespace Go.Proofs.YtobiepkhommeaaaDoor
open Go.RowKit

theorem ru_up {N D T : Nat} (hD : 0 < D) : ru N D T ≤ N * T + 1 := by
  unfold ru
  refine Nat.div_le_of_le_mul ?_
  have h1 : N * T * 1 ≤ N * T * D := Nat.mul_le_mul_left _ hD
  have h2 : D * 2 * (N * T + 1) = N * T * D * 2 + D * 2 := by grind
  omega
theorem pw12 : pw 12 < 10 ^ 117 := by unfold pw; decide +kernel
/-- the units of a cut number have few digits -/
theorem units_len {w : World} {s : Bool} {ao : Option Addr} {n ca : Nat} {bo : Option Addr} {m cb : Nat} {q : Rat} {j : Nat} (h : RQ w s ao n ca bo m cb q 12) (hj : j ≤ 12) : ru (rn q) q.den (10 ^ j) < 10 ^ 131 := by
  obtain ⟨N, D, _, _, sn, _, hq, _⟩ := h
  have h1 : rn q ≤ N := by
    rw [← hq, rn_rq (dn_pos D)]
    exact Nat.div_le_self _ _
  have h2 := @ru_up (rn q) q.den (10 ^ j) q.den_pos
  have h3 : rn q < 10 ^ 117 := Nat.lt_of_le_of_lt h1 (Nat.lt_trans sn.1 pw12)
  have h4 : (10 : Nat) ^ j ≤ 10 ^ 12 := Nat.pow_le_pow_right (by omega) hj
  have h5 : rn q * 10 ^ j ≤ 10 ^ 117 * 10 ^ 12 := Nat.mul_le_mul (Nat.le_of_lt h3) h4
  omega
def txtB (l : List UInt8) : ByteArray := ⟨l.toArray⟩
theorem txtB_size (l : List UInt8) : (txtB l).size = l.length := by simp [txtB, ByteArray.size]
theorem txtB_list (l : List UInt8) : (txtB l).data.toList = l := by simp [txtB]
/-- the text with its point, from the padded digits -/
theorem join_text {P : ByteArray} {d pt : Nat} {D : List UInt8} (hP : P.data.toList = fpad d D) (hd : 0 < d) (hpt : pt = fpt d D) : P.extract 0 pt ++ ⟨#[46]⟩ ++ P.extract pt P.size = txtB (fbody d D) := by
  apply bytes_ext
  rw [txtB_list]
  unfold fbody
  rw [if_pos hd, ← hpt, ← hP]
  have h1 := list_take P pt
  have h2 := list_drop P pt
  simp only [ByteArray.toList_data_append, h1, h2] 
  simp

theorem neg_text {s : Bool} {U j : Nat} (h : s = true ∧ 0 < U) : ⟨#[45]⟩ ++ txtB (fbody j (Lib.decDigits U)) = txtB (ftext s U j) := by
  apply bytes_ext
  unfold ftext
  rw [if_pos h, txtB_list]
  have h1 : ((⟨#[45]⟩ : ByteArray) ++ txtB (fbody j (Lib.decDigits U))).data.toList = [45] ++ (txtB (fbody j (Lib.decDigits U))).data.toList := by simp
  rw [h1, txtB_list]
  rfl
theorem pos_text {s : Bool} {U j : Nat} (h : ¬ (s = true ∧ 0 < U)) : txtB (fbody j (Lib.decDigits U)) = txtB (ftext s U j) := by
  unfold ftext
  rw [if_neg h]
def szOf : Value → Nat
  | .string b => b.size
  | _ => 0
theorem ret_st {a b : ByteArray} (h : a = b) : Ending.returned (.string a) = .returned (.string b) := by rw [h]

end Go.Proofs.YtobiepkhommeaaaDoor
/- Printed rational numbers: the denominator in lowest terms, and how long a text is. -/
namespace Go.Proofs.YtobiepkhommeaaaDoor
open Go.RowKit

theorem CQ.lower {B : Nat} {w : World} {s : Bool} {ao : Option Addr} {n ca : Nat} {bo : Option Addr} {m cb : Nat} {q : Rat} {k : Nat} (h : CQ B w s ao n ca bo m cb q k) : ∃ D, Num w bo m cb D ∧ dn D = q.den := by
  obtain ⟨_, _, h3, _, h5, _, h7⟩ := h
  exact ⟨val (dd q.den), ⟨dd q.den, h3, h5.rd, rfl, Nat.le_trans (dd_len _) h7.len⟩, val_dd (den_pos q)⟩
theorem CQ.upper {B : Nat} {w : World} {s : Bool} {ao : Option Addr} {n ca : Nat} {bo : Option Addr} {m cb : Nat} {q : Rat} {k : Nat} (h : CQ B w s ao n ca bo m cb q k) : Num w ao n ca (rn q) := by
  obtain ⟨_, h2, _, h4, _, h6, _⟩ := h
  rw [h2]; exact Num.of_fr h4 h6

/-- a number below 2^91 has few digits before its point -/
theorem units_short {N D j : Nat} (hD : 0 < D) (h : bl N ≤ bl D + 90) : (Lib.decDigits (ru N D (10 ^ j))).length ≤ 30 + j := by
  have h1 : N < 2 ^ (bl D + 90) := bl_le.1 h
  have hb : 0 < bl D := bl_pos hD
  have h2 := bl_low hb
  have h3 : 2 ^ (bl D + 90) = 2 ^ 91 * 2 ^ (bl D - 1) := by rw [← Nat.pow_add]; congr 1; omega
  have h4 : N < 2 ^ 91 * D := Nat.lt_of_lt_of_le h1 (by rw [h3]; exact Nat.mul_le_mul_left _ h2)
  have hT : 0 < 10 ^ j := Nat.pow_pos (by omega)
  have h5 : ru N D (10 ^ j) < 10 ^ 30 * 10 ^ j := by
    unfold ru
    refine Nat.div_lt_of_lt_mul ?_
    have h6 : (N + 1) * 10 ^ j ≤ 2 ^ 91 * D * 10 ^ j := Nat.mul_le_mul_right _ h4
    have h7 : 2 ^ 91 * D * 10 ^ j + D * 10 ^ j ≤ 10 ^ 30 * D * 10 ^ j := by
      rw [← Nat.add_mul]
      refine Nat.mul_le_mul_right _ ?_
      omega
    have h8 : D * 1 ≤ D * 10 ^ j := Nat.mul_le_mul_left _ hT
    have h9 : D * 2 * (10 ^ 30 * 10 ^ j) = (10 ^ 30 * D * 10 ^ j) * 2 := by grind
    have h10 : (N + 1) * 10 ^ j = N * 10 ^ j + 10 ^ j := by grind
    omega
  rw [← Nat.pow_add] at h5
  have h6 : 30 + j = (29 + j) + 1 := by omega
  rw [h6] at h5 ⊢
  exact dec_len h5
theorem fbody_len (d : Nat) (D : List UInt8) : (fbody d D).length ≤ D.length + d + 2 := by
  unfold fbody
  split
  · have := fpad_length d D
    rw [List.length_append, List.length_cons, List.length_take, List.length_drop]
    omega
  · omega
theorem ftext_len (s : Bool) (U d : Nat) (hd : d ≤ 12) (hU : U < 10 ^ 131) : (txtB (ftext s U d)).size ≤ 1000 := by
  have h1 := fbody_len d (Lib.decDigits U)
  have h2 := dec_len (k := 130) hU
  rw [txtB_size]
  unfold ftext
  split
  · rw [List.length_cons]; omega
  · omega

end Go.Proofs.YtobiepkhommeaaaDoor
