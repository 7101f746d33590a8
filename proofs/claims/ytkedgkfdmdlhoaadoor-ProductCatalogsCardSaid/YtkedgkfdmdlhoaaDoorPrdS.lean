import Derived.Test.YtkedgkfdmdlhoaaDoorPrdM
import Derived.Sort.Walk0
import Derived.Lib.Bytealg
import Derived.Lib.SlicesCompact
/- Layer 9: lists of attributes, sorted by name; names without repetition. -/
namespace Go.Proofs.YtkedgkfdmdlhoaaDoor.P9

abbrev Atr := ByteArray × ByteArray
def e2 : Atr := (ByteArray.empty, ByteArray.empty)
instance : Inhabited Atr := ⟨e2⟩
def nmL (x : Atr) : List UInt8 := x.1.data.toList
def lss (x y : Atr) : Bool := decide (nmL x < nmL y)

/-- the order of bytes as the library writes it -/
theorem cmp_neg : ∀ a b : List UInt8, (Lib.compareBytes a b < 0) ↔ a < b
  | [], [] => by simp [Lib.compareBytes]
  | [], _ :: _ => by simp [Lib.compareBytes]
  | _ :: _, [] => by simp [Lib.compareBytes]
  | x :: a, y :: b => by
    have ih := cmp_neg a b
    unfold Lib.compareBytes
    rw [List.cons_lt_cons_iff]
    by_cases h1 : x < y
    · simp [h1]
    · by_cases h2 : y < x
      · have : x ≠ y := by rintro rfl; exact h1 h2
        simp [h1, h2, this]
      · have : x = y := UInt8.le_antisymm (UInt8.not_lt.1 h2) (UInt8.not_lt.1 h1)
        simp [this, ih]
theorem lt_irr (a : List UInt8) : ¬ a < a := List.lt_irrefl a
theorem lt_tr {a b c : List UInt8} (h : a < b) (k : b < c) : a < c := List.lt_trans h k
theorem lt_tot {a b : List UInt8} (h : ¬ a < b) (k : ¬ b < a) : a = b := List.le_antisymm (List.not_lt.1 k) (List.not_lt.1 h)
theorem nlt_tr {a b c : List UInt8} (h : ¬ b < a) (k : ¬ c < b) : ¬ c < a := List.not_lt.2 (List.le_trans (List.not_lt.1 h) (List.not_lt.1 k))

/-- where x goes in a sorted list: behind all that are not greater -/
def pos (x : Atr) (l : List Atr) : Nat → Nat
  | 0 => 0
  | k + 1 => if lss x (l.getD k e2) = true then pos x l k else k + 1
theorem pos_le (x : Atr) (l : List Atr) : ∀ k, pos x l k ≤ k
  | 0 => Nat.le_refl _
  | k + 1 => by
    unfold pos
    split
    · exact Nat.le_succ_of_le (pos_le x l k)
    · exact Nat.le_refl _
theorem pos_go {x : Atr} {l : List Atr} {k : Nat} (h : lss x (l.getD k e2) = true) : pos x l (k + 1) = pos x l k := by
  show (if lss x (l.getD k e2) = true then pos x l k else k + 1) = _
  rw [if_pos h]
theorem pos_stop {x : Atr} {l : List Atr} {k : Nat} (h : lss x (l.getD k e2) = false) : pos x l (k + 1) = k + 1 := by
  show (if lss x (l.getD k e2) = true then pos x l k else k + 1) = _
  rw [h]; rfl
def insA (l : List Atr) (x : Atr) : List Atr := l.take (pos x l l.length) ++ x :: l.drop (pos x l l.length)
def isort (l : List Atr) : List Atr := l.foldl insA []
theorem insA_length (l : List Atr) (x : Atr) : (insA l x).length = l.length + 1 := by
  unfold insA
  have := pos_le x l l.length
  simp; omega
theorem foldl_length (l : List Atr) : ∀ o : List Atr, (l.foldl insA o).length = o.length + l.length := by
  induction l with
  | nil => intro o; rfl
  | cons x r ih => intro o; simp only [List.foldl_cons, ih, insA_length, List.length_cons]; omega
theorem isort_length (l : List Atr) : (isort l).length = l.length := by unfold isort; rw [foldl_length]; simp
theorem isort_take (l : List Atr) (i : Nat) (h : i < l.length) : isort (l.take (i + 1)) = insA (isort (l.take i)) (l.getD i e2) := by
  unfold isort
  rw [List.take_add_one, List.getElem?_eq_getElem h, List.foldl_append]
  simp [List.getD, h]
theorem insA_perm (l : List Atr) (x : Atr) : (insA l x).Perm (x :: l) := by
  unfold insA
  refine List.perm_middle.trans ?_
  rw [List.take_append_drop]
theorem foldl_perm (l : List Atr) : ∀ o : List Atr, (l.foldl insA o).Perm (l ++ o) := by
  induction l with
  | nil => intro o; exact List.Perm.refl _
  | cons x r ih =>
    intro o
    simp only [List.foldl_cons]
    refine (ih _).trans ?_
    refine ((insA_perm o x).append_left r).trans ?_
    exact List.perm_middle
theorem isort_perm (l : List Atr) : (isort l).Perm l := by have := foldl_perm l []; rwa [List.append_nil] at this
def Srt (l : List Atr) : Prop := l.Pairwise (fun x y => ¬ nmL y < nmL x)
theorem pos_left {x : Atr} {l : List Atr} : ∀ (k : Nat), k ≤ l.length → Srt l → ∀ y ∈ l.take (pos x l k), ¬ nmL x < nmL y
  | 0, _, _ => by intro y hy; simp [pos] at hy
  | k + 1, hk, hs => by
    cases h : lss x (l.getD k e2) with
    | true => rw [pos_go h]; exact pos_left k (by omega) hs
    | false =>
      rw [pos_stop h]
      intro y hy
      have hk' : k < l.length := by omega
      have hx : ¬ nmL x < nmL l[k] := by
        have : l.getD k e2 = l[k] := by simp [List.getD, hk']
        rw [this] at h
        unfold lss at h
        simpa using h
      obtain ⟨i, hi, rfl⟩ := List.mem_take_iff_getElem.1 hy
      by_cases he : i = k
      · subst he; exact hx
      · have hlt : i < k := by omega
        have := List.pairwise_iff_getElem.1 hs i k (by omega) hk' hlt
        exact nlt_tr this hx
theorem pos_right {x : Atr} {l : List Atr} : ∀ (k : Nat), k ≤ l.length → ∀ i, pos x l k ≤ i → i < k → ∀ h : i < l.length, nmL x < nmL l[i]
  | 0, _ => by intro i _ h2; omega
  | k + 1, hk => by
    intro i h1 h2 h3
    cases h : lss x (l.getD k e2) with
    | true =>
      rw [pos_go h] at h1
      by_cases he : i = k
      · subst he
        have : l.getD i e2 = l[i] := by simp [List.getD, h3]
        rw [this] at h
        unfold lss at h
        simpa using h
      · exact pos_right k (by omega) i h1 (by omega) h3
    | false => rw [pos_stop h] at h1; omega
theorem insA_srt {l : List Atr} (hs : Srt l) (x : Atr) : Srt (insA l x) := by
  unfold insA Srt
  have hp := pos_le x l l.length
  rw [List.pairwise_append]
  refine ⟨hs.sublist (List.take_sublist _ _), ?_, ?_⟩
  · rw [List.pairwise_cons]
    refine ⟨fun y hy => ?_, hs.sublist (List.drop_sublist _ _)⟩
    obtain ⟨i, hi, rfl⟩ := List.mem_drop_iff_getElem.1 hy
    have := pos_right (x := x) (l := l) l.length (Nat.le_refl _) (pos x l l.length + i) (by omega) (by omega) (by omega)
    intro hc
    exact lt_irr _ (lt_tr this hc)
  · intro a ha b hb
    rcases List.mem_cons.1 hb with rfl | hb
    · exact pos_left l.length (Nat.le_refl _) hs a ha
    · obtain ⟨i, hi, rfl⟩ := List.mem_take_iff_getElem.1 ha
      obtain ⟨j, hj, rfl⟩ := List.mem_drop_iff_getElem.1 hb
      exact List.pairwise_iff_getElem.1 hs i _ (by omega) (by omega) (by omega)
theorem foldl_srt (l : List Atr) : ∀ o : List Atr, Srt o → Srt (l.foldl insA o) := by
  induction l with
  | nil => intro o h; exact h
  | cons x r ih => intro o h; exact ih _ (insA_srt h x)
theorem isort_srt (l : List Atr) : Srt (isort l) := foldl_srt l [] (by unfold Srt; exact List.Pairwise.nil)
/-- behind all: x is appended -/
theorem insA_end {l : List Atr} {x : Atr} (h : ∀ y ∈ l, ¬ nmL x < nmL y) : insA l x = l ++ [x] := by
  have : pos x l l.length = l.length := by
    cases hl : l.length with
    | zero => rfl
    | succ k =>
      refine pos_stop ?_
      have hk : k < l.length := by omega
      have e : l.getD k e2 = l[k] := by simp [List.getD, hk]
      rw [e]
      unfold lss
      simpa using h _ (List.getElem_mem hk)
  unfold insA
  rw [this]
  simp
theorem foldl_end (l : List Atr) : ∀ o : List Atr, Srt (o ++ l) → l.foldl insA o = o ++ l := by
  induction l with
  | nil => intro o _; simp
  | cons x r ih =>
    intro o h
    simp only [List.foldl_cons]
    have hx : ∀ y ∈ o, ¬ nmL x < nmL y := fun y hy => (List.pairwise_append.1 h).2.2 y hy x (by simp)
    rw [insA_end hx, ih _ (by simpa using h)]
    simp
theorem isort_of_srt {l : List Atr} (h : Srt l) : isort l = l := by
  have := foldl_end l [] (by simpa using h)
  simpa [isort] using this
theorem isort_idem (l : List Atr) : isort (isort l) = isort l := isort_of_srt (isort_srt l)

/-- the library's insertion sort, over the array -/
theorem swp_next (A B : List Atr) (y x : Atr) : Sort.swp (A ++ y :: x :: B).toArray (A.length + 1) A.length = (A ++ x :: y :: B).toArray := by
  unfold Sort.swp
  have e1 : (A ++ y :: x :: B).toArray[A.length]! = y := by simp
  have e2 : (A ++ y :: x :: B).toArray[A.length + 1]! = x := by simp
  rw [e1, e2]
  simp only [List.setIfInBounds_toArray]
  congr 1
  rw [List.set_append, if_neg (by omega), show A.length + 1 - A.length = 1 by omega]
  rw [List.set_append, if_neg (by omega), show A.length - A.length = 0 by omega]
  rfl
theorem insInner_pos (lt : Atr → Atr → Bool) (hlt : ∀ x y, lt x y = lss x y) (x : Atr) (o r : List Atr) : ∀ j, j ≤ o.length →
    Sort.insInner lt 0 j (o.take j ++ x :: (o.drop j ++ r)).toArray = (o.take (pos x o j) ++ x :: (o.drop (pos x o j) ++ r)).toArray
  | 0, _ => by simp [Sort.insInner, pos]
  | j + 1, hj => by
    have hj' : j < o.length := by omega
    have et : o.take (j + 1) = o.take j ++ [o[j]] := by rw [List.take_add_one, List.getElem?_eq_getElem hj']; rfl
    have hl : (o.take j).length = j := by rw [List.length_take]; omega
    have ed : o.drop j = o[j] :: o.drop (j + 1) := List.drop_eq_getElem_cons hj'
    have hA : (o.take (j + 1) ++ x :: (o.drop (j + 1) ++ r)) = o.take j ++ o[j] :: x :: (o.drop (j + 1) ++ r) := by rw [et, List.append_assoc]; rfl
    unfold Sort.insInner
    rw [hA]
    have q1 : (o.take j ++ o[j] :: x :: (o.drop (j + 1) ++ r)).toArray[j]! = o[j] := by
      have : (o.take j ++ o[j] :: x :: (o.drop (j + 1) ++ r))[(o.take j).length]? = some o[j] := by simp
      rw [hl] at this
      simp [this]
    have q2 : (o.take j ++ o[j] :: x :: (o.drop (j + 1) ++ r)).toArray[j + 1]! = x := by
      have : (o.take j ++ o[j] :: x :: (o.drop (j + 1) ++ r))[(o.take j).length + 1]? = some x := by simp
      rw [hl] at this
      simp [this]
    rw [q1, q2, hlt]
    have eg : o.getD j e2 = o[j] := by simp [List.getD, hj']
    cases h : lss x o[j] with
    | false =>
      rw [pos_stop (by rw [eg]; exact h), ← hA]
      simp
    | true =>
      rw [pos_go (by rw [eg]; exact h)]
      have sw := swp_next (o.take j) (o.drop (j + 1) ++ r) o[j] x
      rw [hl] at sw
      simp only [sw, gt_iff_lt, Nat.zero_lt_succ, decide_true, Bool.and_self, if_true]
      have := insInner_pos lt hlt x o r j (by omega)
      rw [ed, List.cons_append] at this
      exact this
theorem insOuter_sort (lt : Atr → Atr → Bool) (hlt : ∀ x y, lt x y = lss x y) (l : List Atr) : ∀ m i, m = l.length - i → i ≤ l.length →
    Sort.insOuter lt 0 l.length i (isort (l.take i) ++ l.drop i).toArray = (isort l).toArray := by
  intro m
  induction m with
  | zero =>
    intro i hm hi
    have : i = l.length := by omega
    subst this
    unfold Sort.insOuter
    rw [if_neg (by omega), List.take_length, List.drop_length, List.append_nil]
  | succ m ih =>
    intro i hm hi
    have hi' : i < l.length := by omega
    unfold Sort.insOuter
    rw [if_pos hi']
    have hol : (isort (l.take i)).length = i := by rw [isort_length, List.length_take]; omega
    have h1 := insInner_pos lt hlt l[i] (isort (l.take i)) (l.drop (i + 1)) i (by omega)
    have h2 := List.take_length (l := isort (l.take i))
    have h3 := List.drop_length (l := isort (l.take i))
    rw [hol] at h2 h3
    rw [h2, h3, List.nil_append] at h1
    rw [List.drop_eq_getElem_cons hi', h1]
    have h4 := isort_take l i hi'
    unfold insA at h4
    rw [hol] at h4
    have h5 : l.getD i e2 = l[i] := by simp [List.getD, hi']
    rw [h5] at h4
    have := ih (i + 1) (by omega) hi'
    rw [h4] at this
    simpa using this
theorem sort_isort (lt : Atr → Atr → Bool) (hlt : ∀ x y, lt x y = lss x y) (l : List Atr) : Sort.insertionSort lt l.toArray 0 l.length = (isort l).toArray := by
  unfold Sort.insertionSort
  cases l with
  | nil => unfold Sort.insOuter; simp [isort]
  | cons x r =>
    have := insOuter_sort lt hlt (x :: r) _ 1 rfl (by simp)
    have e : isort ((x :: r).take 1) = [x] := by simp [isort, insA, pos]
    rw [e] at this
    simpa using this

/-- names, each once -/
def ddS (o : List (List UInt8)) (x : List UInt8) : List (List UInt8) := if o.getLast? = some x then o else o ++ [x]
def dd (l : List (List UInt8)) : List (List UInt8) := l.foldl ddS []
theorem dd_take (l : List (List UInt8)) (i : Nat) (h : i < l.length) : dd (l.take (i + 1)) = ddS (dd (l.take i)) (l.getD i []) := by
  unfold dd
  rw [List.take_add_one, List.getElem?_eq_getElem h, List.foldl_append]
  simp [List.getD, h]
theorem dd_last (l : List (List UInt8)) (i : Nat) (h : i < l.length) : (dd (l.take (i + 1))).getLast? = some (l.getD i []) := by
  rw [dd_take l i h]
  unfold ddS
  split
  · assumption
  · simp
theorem dd_length (l : List (List UInt8)) : ∀ o : List (List UInt8), (l.foldl ddS o).length ≤ o.length + l.length := by
  induction l with
  | nil => intro o; simp
  | cons x r ih =>
    intro o
    simp only [List.foldl_cons, List.length_cons]
    have := ih (ddS o x)
    have h2 : (ddS o x).length ≤ o.length + 1 := by unfold ddS; split <;> simp
    omega
theorem compact_dd (l : List (List UInt8)) : Lib.compact l = dd l := by
  have : ∀ m, m ≤ l.length → Lib.compactUpTo l.toArray m = dd (l.take m) := by
    intro m
    induction m with
    | zero => intro _; simp [Lib.compactUpTo, dd]
    | succ m ih =>
      intro hm
      have hm' : m < l.length := by omega
      rw [Lib.compactUpTo_succ, ih (by omega), dd_take l m hm']
      have g : l.toArray[m]! = l.getD m [] := by simp [List.getD, hm']
      have hk : Lib.keeps l.toArray m = decide ((dd (l.take m)).getLast? ≠ some (l.getD m [])) := by
        unfold Lib.keeps
        cases m with
        | zero => simp [dd]
        | succ k =>
          rw [dd_last l k (by omega), g]
          have g2 : l.toArray[k]! = l.getD k [] := by
            have : k < l.length := by omega
            simp [List.getD, this]
          simp only [Nat.add_sub_cancel, g2]
          exact decide_eq_decide.2 ⟨fun h => by
            rcases h with h | h
            · omega
            · exact fun e => h (Option.some.inj e).symm, fun h => .inr (fun e => h (by rw [e]))⟩
      rw [hk, g]
      unfold ddS
      by_cases he : (dd (l.take m)).getLast? = some (l.getD m [])
      · have hd : decide ((dd (l.take m)).getLast? ≠ some (l.getD m [])) = false := decide_eq_false (fun h => h he)
        rw [hd, if_pos he]
        exact List.append_nil _
      · have hd : decide ((dd (l.take m)).getLast? ≠ some (l.getD m [])) = true := decide_eq_true he
        rw [hd, if_neg he]
        rfl
  have h := this l.length (Nat.le_refl _)
  rw [List.take_length] at h
  exact h
/-- the sorted list of names is one -/
theorem names_sorted (l : List Atr) (m : List (List UInt8)) (h : m.Perm (l.map nmL)) : (isort l).map nmL = m.mergeSort (fun x y => decide (x ≤ y)) := by
  refine List.Perm.eq_of_pairwise (le := fun a b : List UInt8 => a ≤ b) (fun a b _ _ h1 h2 => List.le_antisymm h1 h2) ?_ ?_ ?_
  · have := isort_srt l
    unfold Srt at this
    rw [List.pairwise_map]
    exact this.imp (fun h => List.not_lt.1 h)
  · have := List.pairwise_mergeSort (le := fun x y : List UInt8 => decide (x ≤ y)) (fun a b c h1 h2 => by simp at *; exact List.le_trans h1 h2) (fun a b => by simp; exact List.le_total a b) m
    exact this.imp (fun h => by simpa using h)
  · exact ((isort_perm l).map nmL).trans (h.symm.trans (List.mergeSort_perm m _).symm)
end Go.Proofs.YtkedgkfdmdlhoaaDoor.P9
