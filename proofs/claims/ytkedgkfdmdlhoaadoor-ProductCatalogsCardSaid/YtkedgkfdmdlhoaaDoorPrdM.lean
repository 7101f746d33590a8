import Derived.Test.YtkedgkfdmdlhoaaDoorClsM
/- Layer 9: the mathematics of check digits and of names. -/
namespace Go.Proofs.YtkedgkfdmdlhoaaDoor.P9
open C6 (dgt)

/-- a digit's number; the weights from the last digit to the first one -/
def dv (b : UInt8) : Nat := b.toNat - 48
def wt (k : Nat) : Nat := if k % 2 = 0 then 3 else 1
def ws : List UInt8 → Nat
  | [] => 0
  | x :: r => wt r.length * dv x + ws r
def ckOk (l : List UInt8) : Bool := (decide (l.length = 7) || decide (l.length = 12)) && l.all dgt
def ck (l : List UInt8) : Nat := if ckOk l = true then (10 - ws l % 10) % 10 else 0
def vid (l : List UInt8) : Bool := ckOk l.dropLast && decide (l.length = l.dropLast.length + 1 ∧ (l.getLastD 0).toNat = 48 + ck l.dropLast)

theorem dgt_iff {b : UInt8} : dgt b = true ↔ 48 ≤ b.toNat ∧ b.toNat ≤ 57 := by unfold dgt; simp
theorem dv_le {b : UInt8} (h : dgt b = true) : dv b ≤ 9 := by have := dgt_iff.1 h; unfold dv; omega
theorem ws_drop (l : List UInt8) (i : Nat) (h : i < l.length) : ws (l.drop i) = wt (l.length - (i + 1)) * dv (l.getD i 0) + ws (l.drop (i + 1)) := by
  rw [List.drop_eq_getElem_cons h]
  simp only [ws, List.length_drop]
  simp [List.getD, h]
theorem wt_next (k : Nat) : wt (k + 1) = 4 - wt k := by
  unfold wt
  by_cases h : k % 2 = 0
  · rw [if_pos h, if_neg (by omega)]
  · rw [if_neg h, if_pos (by omega)]
theorem wt_cases (k : Nat) : wt k = 3 ∨ wt k = 1 := by unfold wt; split <;> simp
theorem ws_le (l : List UInt8) (h : l.all dgt = true) : ws l ≤ 27 * l.length := by
  induction l with
  | nil => simp [ws]
  | cons x r ih =>
    simp only [List.all_cons, Bool.and_eq_true] at h
    have h1 := ih h.2
    have h2 := dv_le h.1
    have h3 := wt_cases r.length
    simp only [ws, List.length_cons]
    have : wt r.length * dv x ≤ 27 := by
      rcases h3 with e | e <;> rw [e] <;> omega
    omega
theorem ck_lt (l : List UInt8) : ck l ≤ 9 := by
  unfold ck
  split
  · omega
  · omega
theorem ckOk_len {l : List UInt8} (h : ckOk l = true) : l.length = 7 ∨ l.length = 12 := by
  unfold ckOk at h
  simp at h
  exact h.1
theorem ckOk_all {l : List UInt8} (h : ckOk l = true) : l.all dgt = true := by
  unfold ckOk at h
  rw [Bool.and_eq_true] at h
  exact h.2
theorem ckOk_mk {l : List UInt8} (h : l.length = 7 ∨ l.length = 12) (hd : l.all dgt = true) : ckOk l = true := by
  unfold ckOk
  rw [hd]
  simp
  exact h
theorem ckOk_not {l : List UInt8} (h : ¬ (l.length = 7 ∨ l.length = 12)) : ckOk l = false := by
  unfold ckOk
  simp
  intro h1
  exact absurd h1 h
theorem ckOk_bad {l : List UInt8} {i : Nat} (hi : i < l.length) (hb : dgt (l.getD i 0) = false) : ckOk l = false := by
  unfold ckOk
  rw [Bool.and_eq_false_iff]
  refine .inr ?_
  rw [List.all_eq_false]
  exact ⟨l[i], List.getElem_mem hi, by simpa [List.getD, hi] using hb⟩
theorem ck_bad {l : List UInt8} (h : ckOk l = false) : ck l = 0 := by unfold ck; rw [h]; rfl
theorem ck_good {l : List UInt8} (h : ckOk l = true) : ck l = (10 - ws l % 10) % 10 := by unfold ck; rw [h]; rfl
/-- all digits behind a place -/
theorem all_drop {l : List UInt8} {i : Nat} (hi : i < l.length) (hb : dgt (l.getD i 0) = true) (h : (l.drop (i + 1)).all dgt = true) : (l.drop i).all dgt = true := by
  rw [List.drop_eq_getElem_cons hi, List.all_cons, h, Bool.and_true]
  simpa [List.getD, hi] using hb
theorem all_take {l : List UInt8} {i : Nat} (hi : i < l.length) (hb : dgt (l.getD i 0) = true) (h : (l.take i).all dgt = true) : (l.take (i + 1)).all dgt = true := by
  rw [List.take_add_one, List.getElem?_eq_getElem hi, List.all_append, h]
  simpa [List.getD, hi] using hb

/-- the weighted sum of an ID -/
def fw (k : Nat) : Nat := if k % 2 = 0 then 1 else 3
def fs : List UInt8 → Nat
  | [] => 0
  | x :: r => fw r.length * dv x + fs r
theorem fs_snoc (l : List UInt8) (c : UInt8) : fs (l ++ [c]) = ws l + dv c := by
  induction l with
  | nil => simp [fs, ws, fw]
  | cons x r ih =>
    simp only [List.cons_append, fs, ws, ih, List.length_append, List.length_cons, List.length_nil]
    have : fw (r.length + 0 + 1) = wt r.length := by
      unfold fw wt
      by_cases h : r.length % 2 = 0
      · rw [if_neg (by omega), if_pos h]
      · rw [if_pos (by omega), if_neg h]
    rw [show r.length + (0 + 1) = r.length + 0 + 1 by omega, this]
    omega
theorem snoc_of {l : List UInt8} (h : l ≠ []) : l = l.dropLast ++ [l.getLastD 0] := by
  have := List.dropLast_concat_getLast h
  rw [List.getLastD_eq_getLast?, List.getLast?_eq_some_getLast h]
  exact this.symm
theorem vid_snoc (p : List UInt8) (c : UInt8) : vid (p ++ [c]) = (ckOk p && decide (c.toNat = 48 + ck p)) := by
  unfold vid
  rw [List.dropLast_concat]
  have : (p ++ [c]).getLastD 0 = c := by simp
  rw [this]
  simp
theorem vid_nil : vid [] = false := by decide
theorem vid_iff {l : List UInt8} (hl : l.length = 8 ∨ l.length = 13) (hd : l.all dgt = true) : vid l = true ↔ fs l % 10 = 0 := by
  have hne : l ≠ [] := by intro e; rw [e] at hl; simp at hl
  obtain ⟨p, c, rfl⟩ : ∃ p c, l = p ++ [c] := ⟨_, _, snoc_of hne⟩
  rw [List.all_append, Bool.and_eq_true] at hd
  have hc : dgt c = true := by simpa using hd.2
  have hc1 := dgt_iff.1 hc
  have hok : ckOk p = true := ckOk_mk (by simp at hl; omega) hd.1
  rw [vid_snoc, hok, ck_good hok, fs_snoc]
  have : dv c = c.toNat - 48 := rfl
  simp
  omega
theorem fs_set (l : List UInt8) (i : Nat) (hi : i < l.length) (y : UInt8) : fs (l.set i y) + fw (l.length - 1 - i) * dv (l.getD i 0) = fs l + fw (l.length - 1 - i) * dv y := by
  induction l generalizing i with
  | nil => simp at hi
  | cons x r ih =>
    cases i with
    | zero => simp [fs]; omega
    | succ i =>
      have h := ih i (by simpa using hi)
      simp only [List.set_cons_succ, fs, List.length_set, List.length_cons]
      have e : r.length + 1 - 1 - (i + 1) = r.length - 1 - i := by omega
      have e2 : (x :: r).getD (i + 1) 0 = r.getD i 0 := by simp [List.getD]
      rw [e, e2]
      omega
theorem fw_cases (k : Nat) : fw k = 1 ∨ fw k = 3 := by unfold fw; split <;> simp
theorem fw_next (k : Nat) : fw (k + 1) = 4 - fw k := by
  unfold fw
  by_cases h : k % 2 = 0
  · rw [if_pos h, if_neg (by omega)]
  · rw [if_neg h, if_pos (by omega)]
theorem all_set {l : List UInt8} (h : l.all dgt = true) {i : Nat} {y : UInt8} (hy : dgt y = true) : (l.set i y).all dgt = true := by
  rw [List.all_eq_true] at h ⊢
  intro x hx
  rcases List.mem_or_eq_of_mem_set hx with h1 | h1
  · exact h x h1
  · rw [h1]; exact hy
theorem getD_all {l : List UInt8} (h : l.all dgt = true) {i : Nat} (hi : i < l.length) : dgt (l.getD i 0) = true := by
  rw [List.all_eq_true] at h
  have : l.getD i 0 = l[i] := by simp [List.getD, hi]
  rw [this]
  exact h _ (List.getElem_mem hi)
/-- one digit changed: no ID any more -/
theorem vid_changed {l : List UInt8} (hl : l.length = 8 ∨ l.length = 13) (hd : l.all dgt = true) (hv : vid l = true) {i : Nat} (hi : i < l.length) {y : UInt8} (hy : dgt y = true) (hne : dv y ≠ dv (l.getD i 0)) : vid (l.set i y) = false := by
  have h1 := (vid_iff hl hd).1 hv
  have h2 := vid_iff (l := l.set i y) (by rw [List.length_set]; exact hl) (all_set hd hy)
  have h3 := fs_set l i hi y
  have h4 := dv_le hy
  have h5 := dv_le (getD_all hd hi)
  rw [← Bool.not_eq_true]
  intro hc
  have h6 := h2.1 hc
  rcases fw_cases (l.length - 1 - i) with e | e <;> rw [e] at h3 <;> omega
/-- two neighbours exchanged -/
theorem vid_swapped {l : List UInt8} (hl : l.length = 8 ∨ l.length = 13) (hd : l.all dgt = true) (hv : vid l = true) {i : Nat} (hi : i + 1 < l.length) :
    vid ((l.set i (l.getD (i + 1) 0)).set (i + 1) (l.getD i 0)) = true ↔ (dv (l.getD i 0) = dv (l.getD (i + 1) 0) ∨ dv (l.getD i 0) = dv (l.getD (i + 1) 0) + 5 ∨ dv (l.getD i 0) + 5 = dv (l.getD (i + 1) 0)) := by
  have h1 := (vid_iff hl hd).1 hv
  have g1 := getD_all hd (show i < l.length by omega)
  have g2 := getD_all hd hi
  have h2 := vid_iff (l := (l.set i (l.getD (i + 1) 0)).set (i + 1) (l.getD i 0)) (by rw [List.length_set, List.length_set]; exact hl) (all_set (all_set hd g2) g1)
  have h3 := fs_set l i (by omega) (l.getD (i + 1) 0)
  have h4 := fs_set (l.set i (l.getD (i + 1) 0)) (i + 1) (by rw [List.length_set]; exact hi) (l.getD i 0)
  have e1 : (l.set i (l.getD (i + 1) 0)).getD (i + 1) 0 = l.getD (i + 1) 0 := by
    simp [List.getD]
  rw [List.length_set, e1] at h4
  obtain ⟨k, hk⟩ : ∃ k, k = l.length - 1 - (i + 1) := ⟨_, rfl⟩
  rw [← hk] at h4
  rw [show l.length - 1 - i = k + 1 by omega, fw_next] at h3
  have h5 := dv_le g1
  have h6 := dv_le g2
  rw [h2]
  generalize dv (l.getD i 0) = x at *
  generalize dv (l.getD (i + 1) 0) = y at *
  rcases fw_cases k with e | e <;> rw [e] at h3 h4 <;> omega

/-- names -/
def aln (b : UInt8) : Bool := (decide (97 ≤ b.toNat) && decide (b.toNat ≤ 122)) || (decide (48 ≤ b.toNat) && decide (b.toNat ≤ 57))
def nmAt (i : Nat) (b : UInt8) : Bool := aln b || (decide (0 < i) && (decide (b.toNat = 45) || decide (b.toNat = 46)))
def nmF : Nat → List UInt8 → Bool
  | _, [] => true
  | i, x :: r => nmAt i x && nmF (i + 1) r
def nm (l : List UInt8) : Bool := decide (1 ≤ l.length) && decide (l.length ≤ 24) && nmF 0 l
theorem nmF_drop (l : List UInt8) (i : Nat) (h : i < l.length) : nmF i (l.drop i) = (nmAt i (l.getD i 0) && nmF (i + 1) (l.drop (i + 1))) := by
  rw [List.drop_eq_getElem_cons h]
  simp [nmF, List.getD, h]
theorem nm_short {l : List UInt8} (h : ¬ (1 ≤ l.length ∧ l.length ≤ 24)) : nm l = false := by
  unfold nm
  by_cases h1 : 1 ≤ l.length
  · have : ¬ l.length ≤ 24 := fun h2 => h ⟨h1, h2⟩
    simp [this]
  · simp [h1]
theorem nm_len {l : List UInt8} (h1 : 1 ≤ l.length) (h2 : l.length ≤ 24) : nm l = nmF 0 l := by unfold nm; simp [h1, h2]
/-- the reference's order: the length last -/
theorem nm_ref (l : List UInt8) : nm l = (nmF 0 l && (decide (1 ≤ l.length) && decide (l.length ≤ 24))) := by unfold nm; rw [Bool.and_comm]
theorem nm_not {l : List UInt8} (h : nmF 0 l = false) : nm l = false := by unfold nm; rw [h, Bool.and_false]
end Go.Proofs.YtkedgkfdmdlhoaaDoor.P9
