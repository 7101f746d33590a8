import Derived.Test.YtdcnkebcpaelpaaTfW0
import Derived.Test.YtdcnkebcpaelpaaTfX0
/- Layer 14: a tariff whose charge and prices are multiplied: its bills are. -/
namespace Go.Proofs.Ytdcnkebcpaelpaa.T14

def scl (k : Int) (bs : List (Int × Int)) : List (Int × Int) := bs.map (fun b => (b.1, k * b.2))
theorem scl_length (k : Int) (bs : List (Int × Int)) : (scl k bs).length = bs.length := by simp [scl]
theorem scl_getD (k : Int) (bs : List (Int × Int)) (i : Nat) : (scl k bs).getD i (0, 0) = ((bs.getD i (0, 0)).1, k * (bs.getD i (0, 0)).2) := by
  unfold scl
  simp only [List.getD, List.getElem?_map]
  cases bs[i]? <;> simp
theorem scl_up (k : Int) (bs : List (Int × Int)) (i : Nat) : up (scl k bs) i = up bs i := by unfold up; rw [scl_getD]
theorem scl_prc (k : Int) (bs : List (Int × Int)) (i : Nat) : prc (scl k bs) i = k * prc bs i := by unfold prc; rw [scl_getD]
theorem scl_prev (k : Int) (bs : List (Int × Int)) : ∀ i, prev (scl k bs) i = prev bs i
  | 0 => rfl
  | i + 1 => scl_up k bs i
theorem scl_cnt (k : Int) (bs : List (Int × Int)) (a : Int) (i : Nat) : cnt (scl k bs) a i = cnt bs a i := by unfold cnt top; rw [scl_up, scl_prev]
theorem scl_acc (k st : Int) (bs : List (Int × Int)) (a : Int) : ∀ i, acc (k * st) (scl k bs) a i = k * acc st bs a i
  | 0 => rfl
  | i + 1 => by
    show acc (k * st) (scl k bs) a i + cnt (scl k bs) a i * prc (scl k bs) i = k * (acc st bs a i + cnt bs a i * prc bs i)
    rw [scl_acc k st bs a i, scl_cnt, scl_prc, Int.mul_add, Int.mul_left_comm]
theorem scl_bil (k st : Int) (bs : List (Int × Int)) (a : Int) : bil (k * st) (scl k bs) a = k * bil st bs a := by
  unfold bil; rw [scl_length]; exact scl_acc k st bs a _
theorem scl_ok {bs : List (Int × Int)} (h : OkB bs) {k : Int} (h0 : 0 ≤ k) (hp : ∀ i, i < bs.length → k * prc bs i ≤ 1099511627776) : OkB (scl k bs) := by
  have hl := scl_length k bs
  refine ⟨by have := h.pos; omega, by have := h.len; omega, fun i hi => ?_, fun i hi => ?_, fun i hi => ?_⟩
  · rw [scl_prc]; exact ⟨Int.mul_nonneg h0 (h.price i (by omega)).1, hp i (by omega)⟩
  · rw [scl_prev, scl_up]; exact h.lim i (by omega)
  · rw [scl_up]; exact h.last i (by omega)
theorem scl_usum (k st : Int) (bs us : List (Int × Int)) : ∀ i, usum (k * st) (scl k bs) us i = k * usum st bs us i
  | 0 => by show (0 : Int) = k * 0; rw [Int.mul_zero]
  | i + 1 => by
    show usum (k * st) (scl k bs) us i + prc us i * bil (k * st) (scl k bs) (up us i) = k * (usum st bs us i + prc us i * bil st bs (up us i))
    rw [scl_usum k st bs us i, scl_bil, Int.mul_add, Int.mul_left_comm]
theorem scl_avg (k st : Int) (bs us : List (Int × Int)) : avgR (k * st) (scl k bs) us = (k : Rat) * avgR st bs us := by
  unfold avgR
  rw [scl_usum, Rat.intCast_mul, Rat.div_def, Rat.div_def, Rat.mul_assoc]
/-- a charge that is not 0: the mean bill is not 0 -/
theorem bil_pos {st : Int} {bs : List (Int × Int)} (h : OkB bs) (hs : 1 ≤ st) {a : Int} (h0 : 0 ≤ a) (h1 : a ≤ 1099511627776) : 1 ≤ bil st bs a := by
  have key : ∀ i, i ≤ bs.length → st ≤ acc st bs a i := by
    intro i
    induction i with
    | zero => intro _; exact Int.le_refl _
    | succ i ih =>
      intro hi
      have h2 := ih (by omega)
      have h3 := (h.cnt_mag h0 h1 (i := i) (by omega)).1
      have h4 := (h.price i (by omega)).1
      have := Int.mul_nonneg h3 h4
      show st ≤ acc st bs a i + cnt bs a i * prc bs i
      omega
  have := key bs.length (Nat.le_refl _)
  unfold bil; omega
theorem sum_pos {st : Int} {bs us : List (Int × Int)} (h : OkB bs) (hs : 1 ≤ st) (hu : OkU us) : 1 ≤ usum st bs us us.length := by
  have key : ∀ i, i ≤ us.length → (i : Int) ≤ usum st bs us i := by
    intro i
    induction i with
    | zero => intro _; exact Int.le_refl _
    | succ i ih =>
      intro hi
      have h2 := ih (by omega)
      obtain ⟨u0, u1, u2, _⟩ := hu.good i (by omega)
      have hb := bil_pos (st := st) h hs u0 u1
      have h3 := Int.mul_le_mul u2 hb (by omega) (by omega)
      show ((i + 1 : Nat) : Int) ≤ usum st bs us i + prc us i * bil st bs (up us i)
      omega
  have := key us.length (Nat.le_refl _)
  have := hu.pos
  omega
theorem avg_ne {st : Int} {bs us : List (Int × Int)} (h : OkB bs) (hs : 1 ≤ st) (hu : OkU us) : avgR st bs us ≠ 0 := by
  have h1 := sum_pos h hs hu
  have h2 := (hu.cnt_mag us.length (Nat.le_refl _)).1
  have h3 := hu.pos
  have hc : ((ucnt us us.length : Int) : Rat) ≠ 0 := fun e => by
    have : ucnt us us.length = 0 := by exact_mod_cast e
    omega
  intro e
  unfold avgR at e
  have e2 : ((usum st bs us us.length : Int) : Rat) = 0 := by
    have e3 := congrArg (fun x => x * ((ucnt us us.length : Int) : Rat)) e
    simp only [Rat.div_mul_cancel hc, Rat.zero_mul] at e3
    exact e3
  have : usum st bs us us.length = 0 := by exact_mod_cast e2
  omega
end Go.Proofs.Ytdcnkebcpaelpaa.T14
/- Layer 14: a block divided in two of one price: the same bills; another price of a unit: not equivalent. -/
namespace Go.Proofs.Ytdcnkebcpaelpaa.T14

/-- block i divided at cut -/
def ins (bs : List (Int × Int)) (i : Nat) (cut p : Int) : List (Int × Int) := bs.take i ++ (cut, p) :: bs.drop i
theorem ins_length {bs : List (Int × Int)} {i : Nat} {cut p : Int} (hi : i < bs.length) : (ins bs i cut p).length = bs.length + 1 := by
  unfold ins; rw [List.length_append, List.length_cons, List.length_take, List.length_drop]; omega
theorem ins_getD {bs : List (Int × Int)} {i : Nat} {cut p : Int} (hi : i < bs.length) (j : Nat) : (ins bs i cut p).getD j (0, 0) = if j < i then bs.getD j (0, 0) else if j = i then (cut, p) else bs.getD (j - 1) (0, 0) := by
  have hl : (bs.take i).length = i := by rw [List.length_take]; omega
  unfold ins
  simp only [List.getD]
  by_cases h : j < i
  · rw [if_pos h, List.getElem?_append_left (by omega), List.getElem?_take_of_lt h]
  · rw [if_neg h, List.getElem?_append_right (by omega), hl]
    by_cases h2 : j = i
    · rw [if_pos h2, h2, Nat.sub_self]; rfl
    · rw [if_neg h2]
      obtain ⟨k, hk⟩ : ∃ k, j - i = k + 1 := ⟨j - i - 1, by omega⟩
      rw [hk, List.getElem?_cons_succ, List.getElem?_drop, show i + k = j - 1 by omega]
theorem ins_up {bs : List (Int × Int)} {i : Nat} {cut p : Int} (hi : i < bs.length) (j : Nat) : up (ins bs i cut p) j = if j < i then up bs j else if j = i then cut else up bs (j - 1) := by
  unfold up; rw [ins_getD hi]; split
  · rfl
  · split <;> rfl
theorem ins_prc {bs : List (Int × Int)} {i : Nat} {cut p : Int} (hi : i < bs.length) (j : Nat) : prc (ins bs i cut p) j = if j < i then prc bs j else if j = i then p else prc bs (j - 1) := by
  unfold prc; rw [ins_getD hi]; split
  · rfl
  · split <;> rfl
theorem ins_prev {bs : List (Int × Int)} {i : Nat} {cut p : Int} (hi : i < bs.length) : ∀ j, prev (ins bs i cut p) j = if j ≤ i then prev bs j else if j = i + 1 then cut else prev bs (j - 1)
  | 0 => by rw [if_pos (Nat.zero_le _)]; rfl
  | j + 1 => by
    show up _ j = _
    rw [ins_up hi]
    by_cases h : j < i
    · simp only [if_pos h, if_pos (show j + 1 ≤ i by omega)]; rfl
    · by_cases h2 : j = i
      · simp only [if_neg h, if_pos h2, if_neg (show ¬ j + 1 ≤ i by omega), if_pos (show j + 1 = i + 1 by omega)]
      · simp only [if_neg h, if_neg h2, if_neg (show ¬ j + 1 ≤ i by omega), if_neg (show ¬ j + 1 = i + 1 by omega)]
        obtain ⟨k, rfl⟩ : ∃ k, j = k + 1 := ⟨j - 1, by omega⟩
        rfl
theorem ins_ok {bs : List (Int × Int)} (h : OkB bs) {i : Nat} {cut p : Int} (hi : i < bs.length) (h8 : bs.length + 1 ≤ 8) (hp : 0 ≤ p ∧ p ≤ 1099511627776) (h1 : prev bs i < cut) (h2 : cut ≤ 1099511627776) (h3 : up bs i = 0 ∨ cut < up bs i) : OkB (ins bs i cut p) := by
  have hn := ins_length (cut := cut) (p := p) hi
  refine ⟨by omega, by omega, fun j hj => ?_, fun j hj => ?_, fun j hj => ?_⟩
  · rw [ins_prc hi]
    split
    · exact h.price j (by omega)
    · split
      · exact hp
      · exact h.price (j - 1) (by omega)
  · rw [ins_up hi, ins_prev hi]
    by_cases c1 : j < i
    · simp only [if_pos c1, if_pos (show j ≤ i by omega)]; exact h.lim j (by omega)
    · by_cases c2 : j = i
      · simp only [if_neg c1, if_pos c2, if_pos (show j ≤ i by omega)]; rw [c2]; exact ⟨h1, h2⟩
      · simp only [if_neg c1, if_neg c2, if_neg (show ¬ j ≤ i by omega)]
        obtain ⟨k, rfl⟩ : ∃ k, j = k + 1 := ⟨j - 1, by omega⟩
        rw [Nat.add_sub_cancel]
        have hl := h.lim k (by omega)
        by_cases c3 : k + 1 = i + 1
        · rw [if_pos c3]
          obtain rfl : k = i := by omega
          rcases h3 with h3 | h3
          · have := (h.zero_iff (i := k) (by omega)).1 h3; omega
          · exact ⟨h3, hl.2⟩
        · rw [if_neg c3]; exact hl
  · rw [ins_up hi, if_neg (by omega), if_neg (by omega)]
    exact h.last (j - 1) (by omega)

/-- the price of the unit behind a, if a block has it -/
def hit (a : Int) : List (Int × Int) → Option Int
  | [] => none
  | x :: l => if x.1 = 0 ∨ a < x.1 then some x.2 else hit a l
theorem hit_append (a : Int) : ∀ (l m : List (Int × Int)), hit a (l ++ m) = (hit a l).or (hit a m)
  | [], m => by simp [hit]
  | x :: l, m => by
    show (if x.1 = 0 ∨ a < x.1 then some x.2 else hit a (l ++ m)) = (if x.1 = 0 ∨ a < x.1 then some x.2 else hit a l).or (hit a m)
    split
    · rfl
    · exact hit_append a l m
theorem mrg_hit (a : Int) : ∀ l : List (Int × Int), mrg a l = (hit a l).getD 0
  | [] => rfl
  | x :: l => by
    show (if x.1 = 0 ∨ a < x.1 then x.2 else mrg a l) = (if x.1 = 0 ∨ a < x.1 then some x.2 else hit a l).getD 0
    split
    · rfl
    · exact mrg_hit a l
theorem ins_hit {bs : List (Int × Int)} {i : Nat} {cut : Int} (hi : i < bs.length) (hc : up bs i = 0 ∨ cut < up bs i) (h0 : cut ≠ 0) (a : Int) : hit a (ins bs i cut (prc bs i)) = hit a bs := by
  unfold ins
  conv => rhs; rw [← List.take_append_drop i bs]
  rw [hit_append, hit_append]
  have e : bs.drop i = (up bs i, prc bs i) :: bs.drop (i + 1) := by
    rw [List.drop_eq_getElem_cons hi]
    unfold up prc
    simp only [List.getD, List.getElem?_eq_getElem hi, Option.getD_some]
  have key : hit a ((cut, prc bs i) :: bs.drop i) = hit a (bs.drop i) := by
    rw [e]
    show (if cut = 0 ∨ a < cut then some (prc bs i) else if up bs i = 0 ∨ a < up bs i then some (prc bs i) else hit a (bs.drop (i + 1))) = if up bs i = 0 ∨ a < up bs i then some (prc bs i) else hit a (bs.drop (i + 1))
    by_cases c : cut = 0 ∨ a < cut
    · rw [if_pos c, if_pos (by omega)]
    · rw [if_neg c]
  rw [key]
/-- the same bills -/
theorem ins_bil {st : Int} {bs : List (Int × Int)} (h : OkB bs) {i : Nat} {cut : Int} (hi : i < bs.length) (h8 : bs.length + 1 ≤ 8) (h1 : prev bs i < cut) (h2 : cut ≤ 1099511627776) (h3 : up bs i = 0 ∨ cut < up bs i) : ∀ a : Nat, bil st (ins bs i cut (prc bs i)) a = bil st bs a := by
  have hp := h.price i hi
  have hk := ins_ok h hi h8 hp h1 h2 h3
  have hp0 := (h.prev0 i hi).1
  intro a
  induction a with
  | zero => rw [show ((0 : Nat) : Int) = 0 from rfl, hk.none, h.none]
  | succ a ih =>
    have e1 := hk.next (st := st) (a := (a : Int)) (by omega)
    have e2 := h.next (st := st) (a := (a : Int)) (by omega)
    rw [mrg_hit, ins_hit hi h3 (by omega), ← mrg_hit] at e1
    rw [show ((a + 1 : Nat) : Int) = (a : Int) + 1 by omega]
    omega
/-- the same joined list -/
theorem jst_jst (J : List (Int × Int)) (c u p : Int) : jst (jst J (c, p)) (u, p) = jst J (u, p) := by
  by_cases h : 0 < J.length ∧ prc J (J.length - 1) = p
  · have e : jst J (c, p) = J.set (J.length - 1) (c, p) := by unfold jst; rw [if_pos h]
    rw [e]
    unfold jst
    rw [List.length_set, if_pos h, if_pos ⟨h.1, by unfold prc; rw [getD_set', if_pos ⟨rfl, by omega⟩]⟩, List.set_set]
  · have e : jst J (c, p) = J ++ [(c, p)] := by unfold jst; rw [if_neg h]
    rw [e]
    unfold jst
    rw [List.length_append, List.length_singleton, Nat.add_sub_cancel, if_neg h, if_pos ⟨by omega, by unfold prc; rw [getD_snoc', if_neg (by omega), if_pos rfl]⟩]
    rw [List.set_append_right _ _ (Nat.le_refl _), Nat.sub_self]; rfl
theorem ins_jn {bs : List (Int × Int)} {i : Nat} {cut : Int} (hi : i < bs.length) : ∀ k, (k ≤ i → jn (ins bs i cut (prc bs i)) k = jn bs k) ∧ (i < k → jn (ins bs i cut (prc bs i)) (k + 1) = jn bs k)
  | 0 => ⟨fun _ => rfl, fun h => by omega⟩
  | k + 1 => by
    have ih := ins_jn (cut := cut) hi k
    refine ⟨fun h => ?_, fun h => ?_⟩
    · show jst (jn _ k) _ = jst (jn bs k) _
      rw [ih.1 (by omega), ins_getD hi, if_pos (by omega)]
    · show jst (jn _ (k + 1)) _ = jst (jn bs k) _
      rw [ins_getD hi, if_neg (by omega), if_neg (by omega), Nat.add_sub_cancel]
      by_cases e : k = i
      · subst e
        show jst (jst (jn _ k) ((ins bs k cut (prc bs k)).getD k (0, 0))) _ = _
        rw [ih.1 (Nat.le_refl _), ins_getD hi, if_neg (by omega), if_pos rfl]
        exact jst_jst (jn bs k) cut (up bs k) (prc bs k)
      · rw [ih.2 (by omega)]
theorem ins_same {bs : List (Int × Int)} {i : Nat} {cut : Int} (hi : i < bs.length) : jn (ins bs i cut (prc bs i)) (ins bs i cut (prc bs i)).length = jn bs bs.length := by
  rw [ins_length hi]; exact (ins_jn hi bs.length).2 hi
/-- a joined list has the same prices -/
theorem jn_hit {bs : List (Int × Int)} (h : OkB bs) (a : Int) : ∀ k, k ≤ bs.length → hit a (jn bs k) = hit a (bs.take k)
  | 0, _ => by simp [jn, hit]
  | k + 1, hk => by
    have ih := jn_hit h a k (by omega)
    have e : bs.take (k + 1) = bs.take k ++ [(up bs k, prc bs k)] := by
      rw [List.take_succ_eq_append_getElem (by omega)]
      unfold up prc
      simp only [List.getD, List.getElem?_eq_getElem (show k < bs.length by omega), Option.getD_some]
    rw [e, hit_append, ← ih]
    show hit a (jst (jn bs k) (bs.getD k (0, 0))) = _
    have eb : bs.getD k (0, 0) = (up bs k, prc bs k) := rfl
    rw [eb]
    unfold jst
    split
    · rename_i hc
      obtain ⟨k', rfl⟩ : ∃ k', k = k' + 1 := by
        cases k with
        | zero => simp [jn] at hc
        | succ k => exact ⟨k, rfl⟩
      have hl := jst_last (jn bs k') (bs.getD k' (0, 0))
      have hl2 : (jn bs (k' + 1)).getD ((jn bs (k' + 1)).length - 1) (0, 0) = (up bs k', prc bs k') := hl
      have hpos := (jst_len (jn bs k') (bs.getD k' (0, 0))).1
      have hpos2 : 0 < (jn bs (k' + 1)).length := hpos
      generalize jn bs (k' + 1) = J at *
      obtain ⟨K, c, rfl⟩ : ∃ K c, J = K ++ [c] := ⟨J.dropLast, J.getLast (by intro e; rw [e] at hpos2; simp at hpos2), (List.dropLast_concat_getLast _).symm⟩
      rw [List.length_append, List.length_singleton, Nat.add_sub_cancel, getD_snoc', if_neg (by omega), if_pos rfl] at hl2
      subst hl2
      have hc2 : prc bs k' = prc bs (k' + 1) := by
        have := hc.2
        unfold prc at this
        rw [List.length_append, List.length_singleton, Nat.add_sub_cancel, getD_snoc', if_neg (by omega), if_pos rfl] at this
        exact this
      rw [List.length_append, List.length_singleton, Nat.add_sub_cancel, List.set_append_right _ _ (Nat.le_refl _), Nat.sub_self]
      show hit a (K ++ [(up bs (k' + 1), prc bs (k' + 1))]) = _
      rw [hit_append, hit_append]
      cases hit a K with
      | some v => rfl
      | none =>
        show hit a [(up bs (k' + 1), prc bs (k' + 1))] = (hit a [(up bs k', prc bs k')]).or _
        have hne : up bs k' ≠ 0 := fun e => by have := (h.zero_iff (i := k') (by omega)).1 e; omega
        have hup : up bs (k' + 1) = 0 ∨ up bs k' < up bs (k' + 1) := by
          by_cases e : k' + 1 + 1 < bs.length
          · exact .inr (h.lim (k' + 1) e).1
          · exact .inl (h.last (k' + 1) (by omega))
        show (if up bs (k' + 1) = 0 ∨ a < up bs (k' + 1) then some (prc bs (k' + 1)) else none) = (if up bs k' = 0 ∨ a < up bs k' then some (prc bs k') else none).or (if up bs (k' + 1) = 0 ∨ a < up bs (k' + 1) then some (prc bs (k' + 1)) else none)
        by_cases c : up bs k' = 0 ∨ a < up bs k'
        · rw [if_pos c, if_pos (by omega), hc2]; rfl
        · rw [if_neg c]; rfl
    · rw [hit_append]
/-- equivalent tariffs have the same prices -/
theorem EqP.hit {st su : Int} {bs cs : List (Int × Int)} (h : EqP st bs su cs) (a : Int) : hit a bs = hit a cs := by
  obtain ⟨h1, h2, _, h4⟩ := h
  have e1 := jn_hit (tE_ok h1).2.2 a bs.length (Nat.le_refl _)
  have e2 := jn_hit (tE_ok h2).2.2 a cs.length (Nat.le_refl _)
  rw [List.take_length] at e1 e2
  rw [← e1, ← e2, h4]
end Go.Proofs.Ytdcnkebcpaelpaa.T14
