import Derived.Sort.Walk0
import Derived.Test.YtmhjimcdiglpcaaGreatDoorSmpAw
/- The library's insertion sort by a key: what it leaves, and that equal keys keep their order. -/
namespace Go.Proofs.YtmhjimcdiglpcaaGreatDoor.Dr
section
variable {α : Type} [Inhabited α] (key : α → Int)
def ltk (x y : α) : Bool := decide (key x < key y)
def pos (x : α) (l : List α) : Nat → Nat
  | 0 => 0
  | k + 1 => if ltk key x (l.getD k default) = true then pos x l k else k + 1
theorem pos_le (x : α) (l : List α) : ∀ k, pos key x l k ≤ k
  | 0 => Nat.le_refl _
  | k + 1 => by
    unfold pos
    split
    · exact Nat.le_succ_of_le (pos_le x l k)
    · exact Nat.le_refl _
theorem pos_go {x : α} {l : List α} {k : Nat} (h : ltk key x (l.getD k default) = true) : pos key x l (k + 1) = pos key x l k := by
  show (if ltk key x (l.getD k default) = true then pos key x l k else k + 1) = _
  rw [if_pos h]
theorem pos_stop {x : α} {l : List α} {k : Nat} (h : ltk key x (l.getD k default) = false) : pos key x l (k + 1) = k + 1 := by
  show (if ltk key x (l.getD k default) = true then pos key x l k else k + 1) = _
  rw [h]; rfl
def insA (l : List α) (x : α) : List α := l.take (pos key x l l.length) ++ x :: l.drop (pos key x l l.length)
def isort (l : List α) : List α := l.foldl (insA key) []
theorem insA_length (l : List α) (x : α) : (insA key l x).length = l.length + 1 := by
  unfold insA
  have := pos_le key x l l.length
  simp; omega
theorem foldl_length (l : List α) : ∀ o : List α, (l.foldl (insA key) o).length = o.length + l.length := by
  induction l with
  | nil => intro o; rfl
  | cons x r ih => intro o; simp only [List.foldl_cons, ih, insA_length key, List.length_cons]; omega
theorem isort_length (l : List α) : (isort key l).length = l.length := by unfold isort; rw [foldl_length key]; simp
theorem isort_take (l : List α) (i : Nat) (h : i < l.length) : isort key (l.take (i + 1)) = insA key (isort key (l.take i)) (l.getD i default) := by
  unfold isort
  rw [List.take_add_one, List.getElem?_eq_getElem h, List.foldl_append]
  simp [List.getD, h]
theorem insA_perm (l : List α) (x : α) : (insA key l x).Perm (x :: l) := by
  unfold insA
  refine List.perm_middle.trans ?_
  rw [List.take_append_drop]
theorem foldl_perm (l : List α) : ∀ o : List α, (l.foldl (insA key) o).Perm (l ++ o) := by
  induction l with
  | nil => intro o; exact List.Perm.refl _
  | cons x r ih =>
    intro o
    simp only [List.foldl_cons]
    refine (ih _).trans ?_
    refine ((insA_perm key o x).append_left r).trans ?_
    exact List.perm_middle
theorem isort_perm (l : List α) : (isort key l).Perm l := by have := foldl_perm key l []; rwa [List.append_nil] at this
/-- the library's insertion sort, over the array -/
theorem swp_next (A B : List α) (y x : α) : Sort.swp (A ++ y :: x :: B).toArray (A.length + 1) A.length = (A ++ x :: y :: B).toArray := by
  unfold Sort.swp
  have e1 : (A ++ y :: x :: B).toArray[A.length]! = y := by simp
  have e2 : (A ++ y :: x :: B).toArray[A.length + 1]! = x := by simp
  rw [e1, e2]
  simp only [List.setIfInBounds_toArray]
  congr 1
  rw [List.set_append, if_neg (by omega), show A.length + 1 - A.length = 1 by omega]
  rw [List.set_append, if_neg (by omega), show A.length - A.length = 0 by omega]
  rfl
theorem insInner_pos (x : α) (o r : List α) : ∀ j, j ≤ o.length →
    Sort.insInner (ltk key) 0 j (o.take j ++ x :: (o.drop j ++ r)).toArray = (o.take (pos key x o j) ++ x :: (o.drop (pos key x o j) ++ r)).toArray
  | 0, _ => by simp [Sort.insInner, pos]
  | j + 1, hj => by
    have hj' : j < o.length := by omega
    have et : o.take (j + 1) = o.take j ++ [o[j]] := by rw [List.take_add_one, List.getElem?_eq_getElem hj']; rfl
    have hl : (o.take j).length = j := by rw [List.length_take]; omega
    have ed : o.drop j = o[j] :: o.drop (j + 1) := List.drop_eq_getElem_cons hj'
    have hA : (o.take (j + 1) ++ x :: (o.drop (j + 1) ++ r)) = o.take j ++ o[j] :: x :: (o.drop (j + 1) ++ r) := by rw [et, List.append_assoc]; rfl
    unfold Sort.insInner
    rw [hA]
    have q1 : (o.take j ++ o[j] :: x :: (o.drop (j + 1) ++ r)).toArray[j]! = o[j] := by
      have : (o.take j ++ o[j] :: x :: (o.drop (j + 1) ++ r))[(o.take j).length]? = some o[j] := by simp
      rw [hl] at this
      simp [this]
    have q2 : (o.take j ++ o[j] :: x :: (o.drop (j + 1) ++ r)).toArray[j + 1]! = x := by
      have : (o.take j ++ o[j] :: x :: (o.drop (j + 1) ++ r))[(o.take j).length + 1]? = some x := by simp
      rw [hl] at this
      simp [this]
    rw [q1, q2]
    have eg : o.getD j default = o[j] := by simp [List.getD, hj']
    cases h : ltk key x o[j] with
    | false =>
      rw [pos_stop key (by rw [eg]; exact h), ← hA]
      simp
    | true =>
      rw [pos_go key (by rw [eg]; exact h)]
      have sw := swp_next (o.take j) (o.drop (j + 1) ++ r) o[j] x
      rw [hl] at sw
      simp only [sw, gt_iff_lt, Nat.zero_lt_succ, decide_true, Bool.and_self, if_true]
      have := insInner_pos x o r j (by omega)
      rw [ed, List.cons_append] at this
      exact this
theorem insOuter_sort (l : List α) : ∀ m i, m = l.length - i → i ≤ l.length →
    Sort.insOuter (ltk key) 0 l.length i (isort key (l.take i) ++ l.drop i).toArray = (isort key l).toArray := by
  intro m
  induction m with
  | zero =>
    intro i hm hi
    have : i = l.length := by omega
    subst this
    unfold Sort.insOuter
    rw [if_neg (by omega), List.take_length, List.drop_length, List.append_nil]
  | succ m ih =>
    intro i hm hi
    have hi' : i < l.length := by omega
    unfold Sort.insOuter
    rw [if_pos hi']
    have hol : (isort key (l.take i)).length = i := by rw [isort_length key, List.length_take]; omega
    have h1 := insInner_pos key l[i] (isort key (l.take i)) (l.drop (i + 1)) i (by omega)
    have h2 := List.take_length (l := isort key (l.take i))
    have h3 := List.drop_length (l := isort key (l.take i))
    rw [hol] at h2 h3
    rw [h2, h3, List.nil_append] at h1
    rw [List.drop_eq_getElem_cons hi', h1]
    have h4 := isort_take key l i hi'
    unfold insA at h4
    rw [hol] at h4
    have h5 : l.getD i default = l[i] := by simp [List.getD, hi']
    rw [h5] at h4
    have := ih (i + 1) (by omega) hi'
    rw [h4] at this
    simpa using this
theorem sort_isort (l : List α) : Sort.insertionSort (ltk key) l.toArray 0 l.length = (isort key l).toArray := by
  unfold Sort.insertionSort
  cases l with
  | nil => unfold Sort.insOuter; simp [isort]
  | cons x r =>
    have := insOuter_sort key (x :: r) _ 1 rfl (by simp)
    have e : isort key ((x :: r).take 1) = [x] := by simp [isort, insA, pos]
    rw [e] at this
    simpa using this


/-- the order: by key, then by place -/
def Rk (idx : α → Nat) (x y : α) : Prop := key x < key y ∨ (key x = key y ∧ idx x < idx y)
theorem pos_left {idx : α → Nat} {x : α} {l : List α} : ∀ (k : Nat), k ≤ l.length → l.Pairwise (Rk key idx) → ∀ y ∈ l.take (pos key x l k), ¬ key x < key y
  | 0, _, _ => by intro y hy; simp [pos] at hy
  | k + 1, hk, hs => by
    cases h : ltk key x (l.getD k default) with
    | true => rw [pos_go key h]; exact pos_left k (by omega) hs
    | false =>
      rw [pos_stop key h]
      intro y hy
      have hk' : k < l.length := by omega
      have hx : ¬ key x < key l[k] := by
        have : l.getD k default = l[k] := by simp [List.getD, hk']
        rw [this] at h
        unfold ltk at h
        simpa using h
      obtain ⟨i, hi, rfl⟩ := List.mem_take_iff_getElem.1 hy
      by_cases he : i = k
      · subst he; exact hx
      · have hlt : i < k := by omega
        have := List.pairwise_iff_getElem.1 hs i k (by omega) hk' hlt
        unfold Rk at this
        omega
theorem pos_right {x : α} {l : List α} : ∀ (k : Nat), k ≤ l.length → ∀ i, pos key x l k ≤ i → i < k → ∀ h : i < l.length, key x < key l[i]
  | 0, _ => by intro i _ h2; omega
  | k + 1, hk => by
    intro i h1 h2 h3
    cases h : ltk key x (l.getD k default) with
    | true =>
      rw [pos_go key h] at h1
      by_cases he : i = k
      · subst he
        have : l.getD i default = l[i] := by simp [List.getD, h3]
        rw [this] at h
        unfold ltk at h
        simpa using h
      · exact pos_right k (by omega) i h1 (by omega) h3
    | false => rw [pos_stop key h] at h1; omega
theorem insA_srt {idx : α → Nat} {l : List α} (hs : l.Pairwise (Rk key idx)) (x : α) (hx : ∀ y ∈ l, idx y < idx x) : (insA key l x).Pairwise (Rk key idx) := by
  unfold insA
  have hp := pos_le key x l l.length
  rw [List.pairwise_append]
  refine ⟨hs.sublist (List.take_sublist _ _), ?_, ?_⟩
  · rw [List.pairwise_cons]
    refine ⟨fun y hy => ?_, hs.sublist (List.drop_sublist _ _)⟩
    obtain ⟨i, hi, rfl⟩ := List.mem_drop_iff_getElem.1 hy
    exact .inl (pos_right key (x := x) (l := l) l.length (Nat.le_refl _) (pos key x l l.length + i) (by omega) (by omega) (by omega))
  · intro a ha b hb
    rcases List.mem_cons.1 hb with rfl | hb
    · have h1 := pos_left key (idx := idx) l.length (Nat.le_refl _) hs a ha
      have h2 := hx a (List.mem_of_mem_take ha)
      unfold Rk
      omega
    · obtain ⟨i, hi, rfl⟩ := List.mem_take_iff_getElem.1 ha
      obtain ⟨j, hj, rfl⟩ := List.mem_drop_iff_getElem.1 hb
      exact List.pairwise_iff_getElem.1 hs i _ (by omega) (by omega) (by omega)
theorem foldl_srt {idx : α → Nat} (l : List α) : ∀ o : List α, o.Pairwise (Rk key idx) → l.Pairwise (fun a b => idx a < idx b) → (∀ y ∈ o, ∀ x ∈ l, idx y < idx x) → (l.foldl (insA key) o).Pairwise (Rk key idx) := by
  induction l with
  | nil => intro o h _ _; exact h
  | cons x r ih =>
    intro o h hl ho
    rw [List.pairwise_cons] at hl
    refine ih _ (insA_srt key h x (fun y hy => ho y hy x (List.mem_cons_self))) hl.2 (fun y hy z hz => ?_)
    rcases List.mem_cons.1 ((insA_perm key o x).mem_iff.1 hy) with rfl | hy
    · exact hl.1 z hz
    · exact ho y hy z (List.mem_cons_of_mem _ hz)
theorem isort_srt {idx : α → Nat} (l : List α) (hl : l.Pairwise (fun a b => idx a < idx b)) : (isort key l).Pairwise (Rk key idx) := foldl_srt key l [] List.Pairwise.nil hl (fun y hy => by simp at hy)
end
end Go.Proofs.YtmhjimcdiglpcaaGreatDoor.Dr
/- The units by size, the greatest first; how many of them are certain. -/
namespace Go.Proofs.YtmhjimcdiglpcaaGreatDoor.Dr

/-- a list of the N units, by size from the greatest on, equal ones by their numbers -/
structure Ord (N : Nat) (x : Nat → Int) (od : List Nat) : Prop where
  perm : od.Perm (List.range N)
  srt : od.Pairwise (fun a b => x b < x a ∨ (x a = x b ∧ a < b))
theorem Ord.len {N : Nat} {x : Nat → Int} {od : List Nat} (h : Ord N x od) : od.length = N := by rw [h.perm.length_eq, List.length_range]
theorem Ord.lt {N : Nat} {x : Nat → Int} {od : List Nat} (h : Ord N x od) {i : Nat} (hi : i ∈ od) : i < N := by simpa using h.perm.mem_iff.1 hi
theorem Ord.mem {N : Nat} {x : Nat → Int} {od : List Nat} (h : Ord N x od) {i : Nat} (hi : i < N) : i ∈ od := h.perm.mem_iff.2 (by simpa using hi)
theorem Ord.nodup {N : Nat} {x : Nat → Int} {od : List Nat} (h : Ord N x od) : od.Nodup := h.perm.nodup_iff.2 List.nodup_range
theorem Ord.get {N : Nat} {x : Nat → Int} {od : List Nat} (h : Ord N x od) {k : Nat} (hk : k < N) : od.getD k 0 < N := h.lt (by
  have : k < od.length := by rw [h.len]; exact hk
  simp [List.getD, this])
theorem drop_getD (od : List Nat) {k : Nat} (hk : k < od.length) : od.drop k = od.getD k 0 :: od.drop (k + 1) := by
  rw [List.drop_eq_getElem_cons hk]
  simp [List.getD, hk]
theorem take_getD (od : List Nat) {k : Nat} (hk : k < od.length) : od.take (k + 1) = od.take k ++ [od.getD k 0] := by
  rw [List.take_add_one, List.getElem?_eq_getElem hk]
  simp [List.getD, hk]
/-- of those left the next one is the greatest, and the first of the greatest -/
theorem Ord.best {N : Nat} {x : Nat → Int} {od : List Nat} (h : Ord N x od) {k i : Nat} (hk : k < N) (hi : i < N) (hn : i ∉ od.take k) : x i ≤ x (od.getD k 0) ∧ (i < od.getD k 0 → x i < x (od.getD k 0)) := by
  have hk' : k < od.length := by rw [h.len]; exact hk
  have hm := h.mem hi
  rw [← List.take_append_drop k od] at hm
  rcases List.mem_append.1 hm with hm | hm
  · exact absurd hm hn
  · have hs := h.srt.sublist (List.drop_sublist k od)
    rw [drop_getD od hk'] at hm hs
    rcases List.mem_cons.1 hm with rfl | hm
    · exact ⟨Int.le_refl _, fun h => absurd h (Nat.lt_irrefl _)⟩
    · have := (List.pairwise_cons.1 hs).1 i hm
      omega
theorem Ord.next {N : Nat} {x : Nat → Int} {od : List Nat} (h : Ord N x od) {k : Nat} (hk : k < N) : od.getD k 0 ∉ od.take k := by
  have hk' : k < od.length := by rw [h.len]; exact hk
  have hn := h.nodup
  rw [← List.take_append_drop k od, drop_getD od hk', List.nodup_append] at hn
  intro hm
  exact hn.2.2 _ hm _ (List.mem_cons_self) rfl

/-- what is left of the sum behind k units -/
def T (x : Nat → Int) (od : List Nat) (k : Nat) : Int := ((od.drop k).map x).sum
theorem T_next {N : Nat} {x : Nat → Int} {od : List Nat} (h : Ord N x od) {k : Nat} (hk : k < N) : T x od k = x (od.getD k 0) + T x od (k + 1) := by
  unfold T
  rw [drop_getD od (by rw [h.len]; exact hk)]
  simp
theorem T_end {N : Nat} {x : Nat → Int} {od : List Nat} (h : Ord N x od) : T x od N = 0 := by
  unfold T
  rw [← h.len, List.drop_length]
  rfl
theorem sum_perm {l m : List Int} (h : l.Perm m) : l.sum = m.sum := by
  induction h with
  | nil => rfl
  | cons a _ ih => simp [ih]
  | swap a b l => simp; omega
  | trans _ _ ih1 ih2 => rw [ih1, ih2]
theorem T_all {N : Nat} {x : Nat → Int} {od : List Nat} (h : Ord N x od) : T x od 0 = ((List.range N).map x).sum := by
  unfold T
  rw [List.drop_zero]
  exact sum_perm (h.perm.map x)
theorem T_bd {N : Nat} {x : Nat → Int} {od : List Nat} (h : Ord N x od) (hx : ∀ i, i < N → 1 ≤ x i ∧ x i ≤ 1099511627776) : ∀ d k, k + d = N → (d : Int) ≤ T x od k ∧ T x od k ≤ (d : Int) * 1099511627776 := by
  intro d
  induction d with
  | zero => intro k hk; obtain rfl : k = N := by omega
            rw [T_end h]; simp
  | succ d ih =>
    intro k hk
    have hk' : k < N := by omega
    have := hx _ (h.get hk')
    have := ih (k + 1) (by omega)
    rw [T_next h hk']
    omega
/-- K units are certain -/
structure Cert (N : Nat) (x : Nat → Int) (od : List Nat) (n K : Nat) : Prop where
  le : K ≤ N
  go : ∀ j, j < K → T x od j ≤ x (od.getD j 0) * ((n : Int) - (j : Int))
  stop : K < N → x (od.getD K 0) * ((n : Int) - (K : Int)) < T x od K
theorem cert_ex {N : Nat} (x : Nat → Int) (od : List Nat) (n : Nat) : ∃ K, Cert N x od n K := by
  have key : ∀ d k, k + d = N → (∀ j, j < k → T x od j ≤ x (od.getD j 0) * ((n : Int) - (j : Int))) → ∃ K, Cert N x od n K := by
    intro d
    induction d with
    | zero => intro k hk hj; exact ⟨k, by omega, hj, fun h => by omega⟩
    | succ d ih =>
      intro k hk hj
      by_cases h : x (od.getD k 0) * ((n : Int) - (k : Int)) < T x od k
      · exact ⟨k, by omega, hj, fun _ => h⟩
      · refine ih (k + 1) (by omega) (fun j hj' => ?_)
        by_cases e : j = k
        · rw [e]; omega
        · exact hj j (by omega)
  exact key N 0 (by omega) (fun j hj => by omega)
theorem Cert.n_le {N : Nat} {x : Nat → Int} {od : List Nat} {n K : Nat} (c : Cert N x od n K) (h : Ord N x od) (hx : ∀ i, i < N → 1 ≤ x i ∧ x i ≤ 1099511627776) {j : Nat} (hj : j < K) : j < n := by
  have h1 := c.go j hj
  have hN := c.le
  have h2 := (T_bd h hx (N - j) j (by omega)).1
  have h3 := hx _ (h.get (show j < N by omega))
  by_cases e : j < n
  · exact e
  · exfalso
    have h4 : x (od.getD j 0) * ((n : Int) - (j : Int)) ≤ 0 := Int.mul_nonpos_of_nonneg_of_nonpos (by omega) (by omega)
    omega
theorem Cert.K_le {N : Nat} {x : Nat → Int} {od : List Nat} {n K : Nat} (c : Cert N x od n K) (h : Ord N x od) (hx : ∀ i, i < N → 1 ≤ x i ∧ x i ≤ 1099511627776) : K ≤ n := by
  cases K with
  | zero => omega
  | succ K => exact c.n_le h hx (Nat.lt_succ_self K)

theorem finRange_val (N : Nat) : (List.finRange N).map Fin.val = List.range N := by
  apply List.ext_getElem
  · simp
  · intro i h1 h2
    simp
/-- the order that the sort leaves -/
theorem ord_sort (N : Nat) [Inhabited (Fin N)] (x : Nat → Int) : ∃ l : List (Fin N), Sort.insertionSort (ltk fun i : Fin N => -x i.val) (List.finRange N).toArray 0 N = l.toArray ∧ Ord N x (l.map Fin.val) ∧ l.length = N := by
  refine ⟨isort (fun i : Fin N => -x i.val) (List.finRange N), ?_, ⟨?_, ?_⟩, by rw [isort_length, List.length_finRange]⟩
  · have := sort_isort (fun i : Fin N => -x i.val) (List.finRange N)
    rwa [List.length_finRange] at this
  · have := (isort_perm (fun i : Fin N => -x i.val) (List.finRange N)).map Fin.val
    rwa [finRange_val] at this
  · rw [List.pairwise_map]
    refine (isort_srt (fun i : Fin N => -x i.val) (idx := Fin.val) (List.finRange N) ?_).imp ?_
    · rw [List.pairwise_iff_getElem]
      intro i j hi hj hij
      simpa using hij
    · intro a b h
      simp only [Rk] at h
      omega
end Go.Proofs.YtmhjimcdiglpcaaGreatDoor.Dr
/- ranked: up to nineteen units in the order of any comparison of units. -/
namespace Go.Proofs.YtmhjimcdiglpcaaGreatDoor.Dr
open Go.RowKit Go.Sort

def encN {N : Nat} (i : Fin N) : Value := .int .i64 (i.val : Int)
theorem sortN_below {N B : Nat} [Inhabited (Fin N)] {w : World} {blk m : Nat} {dk : Array (Fin N)} {os : Array Obj} (hB : B ≤ blk) (hw : B ≤ w.heap.size) : Below B w (sortWorld encN w blk 0 m dk os) := by
  refine ⟨rfl, rfl, rfl, ?_, fun k hk => ?_⟩
  · simp [sortWorld, grow, putRow, mapBlock, Sort.ahead]
  · unfold sortWorld
    rw [heap_grow_old _ _ (by simp [putRow, mapBlock, Sort.ahead]; omega)]
    have : blk ≠ k := by omega
    simp [putRow, mapBlock, Sort.ahead, Array.getElem?_modify, this]
/-- a comparison of units that reads what lies behind w -/
def CmpU (N : Nat) (cf : Fin N → Fin N → Int) (F : Nat) (cb : Array Value) (w : World) : Prop := ∀ W, Below w.heap.size w W → ∀ x y : Fin N, Calls Tryz.prog F (#[.int .i64 (x.val : Int), .int .i64 (y.val : Int)] ++ cb) W fun e w' => e = .returned (.int .i64 (cf x y)) ∧ ∃ q, w' = W.drewN q
/-- the row as the sort leaves it -/
def srtL {N : Nat} [Inhabited (Fin N)] (cf : Fin N → Fin N → Int) : List Value := (Sort.insertionSort (ltOf cf) (List.finRange N).toArray 0 N).toList.map encN
def SN (N : Nat) [Inhabited (Fin N)] (cf : Fin N → Fin N → Int) (base g : Nat) (w : World) (e : Ending) (w' : World) : Prop := e = .returned (.tuple #[]) ∧ w'.ownsRow base 3 1 (.slice (some ⟨g, 0, none⟩) N N) N (srtL cf) ∧ w.grownBy w' (some g)
theorem fin_vals (N : Nat) : (List.finRange N).map encN = (List.range N).map (fun (j : Nat) => Value.int .i64 (j : Int)) := by
  rw [← finRange_val N, List.map_map]
  rfl

theorem ins_rk (N : Nat) [Inhabited (Fin N)] (hN : N ≤ 1000) (cf : Fin N → Fin N → Int) (F : Nat) (cb : Array Value) (eg : ∀ args w, (callFunc F args).run Tryz.prog w = .ok (.enter F args) w) (base g : Nat) (w0 w : World) (hcl : CmpU N cf F cb w0) (hb : Below w0.heap.size w0 w) (hg0 : w0.heap.size ≤ g)
    (h : w.ownsRow base 3 1 (.slice (some ⟨g, 0, none⟩) N N) N ((List.range N).map (fun (j : Nat) => Value.int .i64 (j : Int)))) (hs : (Sort.insertionSort (ltOf cf) (List.finRange N).toArray 0 N).size = N) :
    Calls Tryz.prog 158 #[.slice (some ⟨g, 0, none⟩) N N, .int .i64 0, .int .i64 (N : Int), .func (.func F) #[] cb] w (SN N cf base g w) := by
  have hcmp : CmpReads Tryz.prog F cb encN cf g 0 (List.finRange N).toArray.size w := by
    intro m os dk _ x y
    exact hcl _ (hb.trans (sortN_below hg0 hb.size)) x y
  have hH : Go.Sort.Holds encN w g 0 (List.finRange N).toArray := by
    intro j hj
    have hjN : j < N := by simpa using hj
    refine ⟨?_, by simpa using h.frozenAt j⟩
    rw [Nat.zero_add]
    refine (h.cellAt j (by omega)).trans ?_
    simp [hjN, encN]
  have hins := Tryz.insertionSortCmpFunc_one encN (fun _ => rfl) cf F cb g 0 N 0 N (List.finRange N).toArray w eg hcmp hH (by omega) (by simp) (by simp; omega)
  rw [show (List.finRange N).toArray.size = N by simp] at hins
  refine hins.mono ?_
  rintro e w' ⟨rfl, n, rfl⟩
  obtain ⟨r1, r2⟩ := row_put (q := n) encN _ h hs
  exact ⟨rfl, r1, r2⟩

set_option maxHeartbeats 4000000 in
theorem stc_rk (N : Nat) [Inhabited (Fin N)] (hN : N ≤ 19) (cf : Fin N → Fin N → Int) (F : Nat) (cb : Array Value) (base g : Nat) (w : World)
    (h : Calls Tryz.prog 158 #[.slice (some ⟨g, 0, none⟩) N N, .int .i64 0, .int .i64 (N : Int), .func (.func F) #[] cb] w (SN N cf base g w)) :
    Calls Tryz.prog 141 #[.slice (some ⟨g, 0, none⟩) N N, .int .i64 (N : Int), .func (.func F) #[] cb] w (SN N cf base g w) := by
  have HC := Lib.hid h
  have hn2 : ¬ (20 : Int) ≤ (N : Int) := by omega
  have hn3 : ¬ (20 : Int) < (N : Int) := by omega
  clear h
  go_enter Tryz.func141, Tryz.ntmps141
  go_wp2_with fail
  go_loopw [7, 8] (fun s7 s8 wr => s7 = .int .i64 0 ∧ s8 = .int .i64 20 ∧ wr = w) (fun _ _ _ => 0)
  case atStart => exact ⟨rfl, rfl, rfl⟩
  case round =>
    obtain ⟨rfl, rfl, rfl⟩ := hrel
    go_wp2_with fail
    refine HC.out.mono ?_; rintro e w2 ⟨rfl, h2, h3⟩
    have H2 : Hid (SN N cf base g wr (.returned (.tuple #[])) w2) := ⟨rfl, h2, h3⟩
    clear h2 h3
    go_wp2_with fail
    go_loopw [6] (fun s6 wr => s6 = .int .i64 20 ∧ wr = w2) (fun _ _ => 0)
    case atStart => exact ⟨rfl, rfl⟩
    case round =>
      obtain ⟨rfl, rfl⟩ := hrel
      go_wp2_with fail
      go_end0
      exact H2.out
set_option maxHeartbeats 4000000 in
theorem sta_rk (N : Nat) [Inhabited (Fin N)] (hN : N ≤ 19) (cf : Fin N → Fin N → Int) (F : Nat) (cb : Array Value) (base g : Nat) (w : World)
    (h : Calls Tryz.prog 158 #[.slice (some ⟨g, 0, none⟩) N N, .int .i64 0, .int .i64 (N : Int), .func (.func F) #[] cb] w (SN N cf base g w)) :
    Calls Tryz.prog 115 #[.slice (some ⟨g, 0, none⟩) N N, .func (.func F) #[] cb] w (SN N cf base g w) := by
  have D := Lib.hid (stc_rk N hN cf F cb base g w h)
  have hN0 : (0 : Int) ≤ (N : Int) := by omega
  clear h
  go_enter Tryz.func115, Tryz.ntmps115
  go_wp2_with fail
  refine D.out.mono ?_; rintro e w2 ⟨rfl, h2, h3⟩
  go_wp2_with fail
  go_end0
  exact ⟨rfl, h2, h3⟩

/-- the units laid so far -/
def flN (N i : Nat) : List Value := (List.range N).map (fun (j : Nat) => Value.int .i64 (if j < i then (j : Int) else 0))
theorem flN_len (N i : Nat) : (flN N i).length = N := by simp [flN]
theorem flN_zero (N : Nat) : flN N 0 = List.replicate N (Value.int .i64 0) := by
  apply List.ext_getElem
  · simp [flN]
  · intro i h1 h2
    simp [flN]
theorem flN_all (N : Nat) : flN N N = (List.range N).map (fun (j : Nat) => Value.int .i64 (j : Int)) := by
  apply List.ext_getElem
  · simp [flN]
  · intro i h1 h2
    have : i < N := by simpa [flN] using h1
    simp [flN, this]
theorem flN_set (N i : Nat) (_ : i < N) : (flN N i).set i (.int .i64 (i : Int)) = flN N (i + 1) := by
  apply List.ext_getElem
  · simp [flN]
  · intro j h1 h2
    have hj : j < N := by simpa [flN] using h2
    rw [List.getElem_set]
    by_cases e : i = j
    · subst e; simp [flN]
    · have : (j < i) = (j < i + 1) := by apply propext; omega
      simp [flN, e, this]
def RankPost (N : Nat) (l : List Value) (w : World) (e : Ending) (w' : World) : Prop := ∃ g, e = .returned (.slice (some ⟨g, 0, none⟩) N N) ∧ w'.ownsRow w.heap.size 3 1 (.slice (some ⟨g, 0, none⟩) N N) N l ∧ Below w.heap.size w w'

set_option maxHeartbeats 8000000 in
set_option maxRecDepth 100000 in
theorem ranked_any (N : Nat) [Inhabited (Fin N)] (hN : N ≤ 19) (cf : Fin N → Fin N → Int) (F : Nat) (cb : Array Value) (eg : ∀ args w, (callFunc F args).run Tryz.prog w = .ok (.enter F args) w) (w : World) (hcl : CmpU N cf F cb w) (hs : (Sort.insertionSort (ltOf cf) (List.finRange N).toArray 0 N).size = N) :
    Calls Tryz.prog 70 #[.int .i64 (N : Int), .func (.func F) #[] cb] w (RankPost N (srtL cf) w) := by
  obtain ⟨i0, hi, hz0, hz1, hz2⟩ := info_partsr infoInt10
  have HCL := Lib.hid hcl
  have HEG : Hid (∀ args w, (callFunc F args).run Tryz.prog w = .ok (.enter F args) w) := eg
  have HSS := Lib.hid hs
  clear hcl eg hs
  go_enter Tryz.func70, Tryz.ntmps70
  go_wp2_with (at_make; go_loud (refine wpList_make_full _ rfl _ _ 22 rfl w.heap.size 3 i0 (.int .i64 0) 1 Tryz.underlying22 hi hz0 hz1 _ _ _ _ N rfl rfl (by omega) (by omega) (by rw [hz2]; omega) (by unfold maxLen; omega) (Nat.le_refl _) ?_); intro w1 hown hgr)
  all_goals
    obtain ⟨g, hg⟩ : ∃ g, g = w.heap.size := ⟨_, rfl⟩
    have hbel : Below w.heap.size w w1 := (Below.refl _ _).grown hgr (Nat.le_refl _) (fun k hk => by cases hk)
    have hown0 : w1.ownsRow w.heap.size 3 1 (.slice (some ⟨w.heap.size, 0, none⟩) N N) N (flN N 0) := by
      have e : (madeCells (Value.int .i64 0).cells (N * 1)).toList = flN N 0 := by rw [show (Value.int .i64 0).cells = #[Value.int .i64 0] from rfl, toList_madeCells_one, Nat.mul_one, flN_zero]
      rw [← e]; exact hown
    rw [← hg] at hown0
    clear hown hgr hi hz0 hz1 hz2
    have HB := Lib.hid hbel
    have HO := Lib.hid hown0
    have HG := Lib.hid hg
    clear hown0 hbel
    try rw [← hg]
    clear hg
    go_loopw [10] (fun s10 wr => ∃ i : Nat, i ≤ N ∧ s10 = .int .i64 (i : Int) ∧ Hid (wr.ownsRow g 3 1 (.slice (some ⟨g, 0, none⟩) N N) N (flN N i)) ∧ Hid (Below g w wr)) (fun s10 _ => N - (intOf s10).toNat)
    case atStart => exact ⟨0, by omega, rfl, HO, by rw [HG.out]; exact HB⟩
    case round =>
      obtain ⟨i, hiN, rfl, ho, hb⟩ := hrel
      by_cases hlt : i < N
      · have hlt2 : (i : Int) < (N : Int) := by omega
        obtain ⟨v0, hv0⟩ : ∃ v, wr.cell? ⟨g, i, none⟩ = some v := ⟨_, (ho.out.cellAt i (by omega)).trans (List.getElem?_eq_getElem (by rw [flN_len]; omega))⟩
        have hf0 := ho.out.frozenAt i
        obtain ⟨hst, hgs⟩ := ho.out.stored i (.int .i64 (i : Int))
        rw [flN_set N i hlt] at hst
        have HST := Lib.hid hst
        have HBS : Hid (Below g w (wr.setCell ⟨g, i, none⟩ (.int .i64 (i : Int)))) := hb.out.setCell (Nat.le_refl _) _
        clear hst hgs ho hb
        go_wp2_with fail
        go_roundw
        case rel => exact ⟨i + 1, by omega, by go_num, HST, HBS⟩
        case measure => simp [intOf]; omega
      · obtain rfl : i = N := by omega
        have hlt2 : ¬ (i : Int) < (i : Int) := by omega
        have hb' := hb.out
        rw [HG.out] at hb'
        have hro := ho.out
        rw [flN_all] at hro
        have HSR := Lib.hid (sta_rk i hN cf F cb g g wr (ins_rk i (by omega) cf F cb HEG.out g g w wr HCL.out hb' (by rw [HG.out]; exact Nat.le_refl _) hro HSS.out))
        have HBB := Lib.hid hb'
        clear hb' hro
        go_wp2_with fail
        refine HSR.out.mono ?_; rintro e w4 ⟨rfl, h4, g4⟩
        have H4 := Lib.hid h4
        have HB4 : Hid (Below w.heap.size w w4) := HBB.out.grown g4 HBB.out.size (fun k e => by cases e; rw [HG.out]; exact Nat.le_refl _)
        clear h4 g4
        go_wp2_with fail
        go_ret
        exact ⟨g, rfl, by rw [← HG.out]; exact H4.out, HB4.out⟩
end Go.Proofs.YtmhjimcdiglpcaaGreatDoor.Dr
/- A draw: sizes compared; the units in the order of their sizes. -/
namespace Go.Proofs.YtmhjimcdiglpcaaGreatDoor.Dr
open Go.RowKit Go.Sort C6

def cmpi (a b : Int) : Int := if a < b then -1 else if b < a then 1 else 0
theorem isNaN_v (x : Int) (w : World) : Calls Tryz.prog 116 #[.int .i64 x] w fun e w' => e = .returned (.bool false) ∧ w = w' := by
  go_enter Tryz.func116, Tryz.ntmps116
  go_wp2_with fail
  go_ret
  exact ⟨rfl, rfl⟩
set_option maxHeartbeats 1000000 in
theorem cmp_v (x y : Int) (w : World) : Calls Tryz.prog 72 #[.int .i64 x, .int .i64 y] w fun e w' => e = .returned (.int .i64 (cmpi x y)) ∧ w = w' := by
  have NX := Lib.hid (isNaN_v x w)
  have NY := Lib.hid (isNaN_v y w)
  unfold cmpi
  by_cases h1 : x < y
  · rw [if_pos h1]
    go_enter Tryz.func72, Tryz.ntmps72
    go_wp2_with fail
    refine NX.out.mono ?_; rintro e w' ⟨rfl, rfl⟩
    go_wp2_with fail
    refine NY.out.mono ?_; rintro e w' ⟨rfl, rfl⟩
    go_wp2_with fail
    go_ret
    exact ⟨rfl, rfl⟩
  · rw [if_neg h1]
    have h1' : decide (x < y) = false := decide_eq_false h1
    by_cases h2 : y < x
    · rw [if_pos h2]
      go_enter Tryz.func72, Tryz.ntmps72
      go_wp2_with fail
      refine NX.out.mono ?_; rintro e w' ⟨rfl, rfl⟩
      go_wp2_with fail
      refine NY.out.mono ?_; rintro e w' ⟨rfl, rfl⟩
      go_wp2_with fail
      go_ret
      exact ⟨rfl, rfl⟩
    · rw [if_neg h2]
      have h2' : decide (y < x) = false := decide_eq_false h2
      go_enter Tryz.func72, Tryz.ntmps72
      go_wp2_with fail
      refine NX.out.mono ?_; rintro e w' ⟨rfl, rfl⟩
      go_wp2_with fail
      refine NY.out.mono ?_; rintro e w' ⟨rfl, rfl⟩
      go_wp2_with fail
      go_ret
      exact ⟨rfl, rfl⟩

/-- the closure of setCertain: the greater size comes first -/
theorem cmpU_sizes (xs : List Int) (gs : Nat) (ao : Option Addr) (cap : Nat) (w : World) (hg : w.heap[gs]? = some (.cells #[.slice ao xs.length cap] 26 (0, 0))) (hr : RdZ w ao cap xs) :
    CmpU xs.length (fun a b => cmpi (xs.getD b.val 0) (xs.getD a.val 0)) 71 #[.pointer (some ⟨gs, 0, none⟩)] w := by
  intro W hb a b
  have hW := (hb.block gs (Array.getElem?_eq_some_iff.1 hg).1).trans hg
  have k0 : W.cell? ⟨gs, 0, none⟩ = some (.slice ao xs.length cap) := by simp [World.cell?, hW]
  have hR := hr.below hb
  obtain ⟨bk, o, rfl, ka⟩ := hR.atZ a.isLt
  obtain ⟨bk', o', e', kb⟩ := hR.atZ b.isLt
  cases e'
  have hl1 : xs.length ≤ cap := by have := hR.1; rwa [intz_length] at this
  obtain ⟨N, hN⟩ : ∃ N, N = xs.length := ⟨_, rfl⟩
  obtain ⟨i, hi⟩ : ∃ i, i = a.val := ⟨_, rfl⟩
  obtain ⟨j, hj⟩ : ∃ j, j = b.val := ⟨_, rfl⟩
  have hiN : i < N := by rw [hi, hN]; exact a.isLt
  have hjN : j < N := by rw [hj, hN]; exact b.isLt
  obtain ⟨X, hX⟩ : ∃ X, X = xs.getD i 0 := ⟨_, rfl⟩
  obtain ⟨Y, hY⟩ : ∃ Y, Y = xs.getD j 0 := ⟨_, rfl⟩
  have hiI : (i : Int) < (N : Int) := by omega
  have hjI : (j : Int) < (N : Int) := by omega
  show Calls Tryz.prog 71 #[.int .i64 (a.val : Int), .int .i64 (b.val : Int), .pointer (some ⟨gs, 0, none⟩)] W fun e w' => e = .returned (.int .i64 (cmpi (xs.getD b.val 0) (xs.getD a.val 0))) ∧ ∃ q, w' = W.drewN q
  rw [← hi] at ka
  rw [← hj] at kb
  rw [← hi, ← hj, ← hX, ← hY]
  rw [← hX] at ka
  rw [← hY] at kb
  rw [← hN] at k0 hl1
  have hic : i < cap := by omega
  have hjc : j < cap := by omega
  have HC : Hid (∀ n, Calls Tryz.prog 72 #[.int .i64 Y, .int .i64 X] (W.drewN n) fun e w' => e = .returned (.int .i64 (cmpi Y X)) ∧ W.drewN n = w') := fun n => cmp_v Y X _
  clear hg hr hb hW hR hX hY hi hj hN
  go_enter Tryz.func71, Tryz.ntmps71
  go_wp2_with fail
  go_quiet ((go_at_call 72; exact Calls.quiet_of_same ((HC.out _).mono fun e w' h => ⟨h.1, h.2.symm⟩)))
  go_wp2_with fail
  go_ret
  exact ⟨rfl, _, rfl⟩

theorem lt_sizes (x : Nat → Int) {N : Nat} : (ltOf fun a b : Fin N => cmpi (x b.val) (x a.val)) = ltk (fun i : Fin N => -x i.val) := by
  funext a b
  unfold ltOf ltk cmpi
  apply decide_eq_decide.2
  show (if x b.val < x a.val then (-1 : Int) else if x a.val < x b.val then 1 else 0) < 0 ↔ -x a.val < -x b.val
  split
  · omega
  · split <;> omega
/-- the units in the order of the sizes, as a row of one's own -/
theorem ranked_sizes (xs : List Int) (h0 : 0 < xs.length) (h19 : xs.length ≤ 19) (gs : Nat) (ao : Option Addr) (cap : Nat) (w : World) (hg : w.heap[gs]? = some (.cells #[.slice ao xs.length cap] 26 (0, 0))) (hr : RdZ w ao cap xs) :
    ∃ od : List Nat, Ord xs.length (fun i => xs.getD i 0) od ∧ Calls Tryz.prog 70 #[.int .i64 (xs.length : Int), .func (.func 71) #[] #[.pointer (some ⟨gs, 0, none⟩)]] w (RankPost xs.length (od.map fun (i : Nat) => Value.int .i64 (i : Int)) w) := by
  haveI : Inhabited (Fin xs.length) := ⟨⟨0, h0⟩⟩
  obtain ⟨l, hl, ho, hln⟩ := ord_sort xs.length (fun i => xs.getD i 0)
  refine ⟨l.map Fin.val, ho, ?_⟩
  have eg : ∀ args w, (callFunc 71 args).run Tryz.prog w = .ok (.enter 71 args) w := Go.Proofs.enters_of Tryz.func71 (by kernel_rfl) rfl
  have hs : Sort.insertionSort (ltOf fun a b : Fin xs.length => cmpi (xs.getD b.val 0) (xs.getD a.val 0)) (List.finRange xs.length).toArray 0 xs.length = l.toArray := by
    rw [lt_sizes (fun i => xs.getD i 0)]; exact hl
  have := ranked_any xs.length h19 (fun a b => cmpi (xs.getD b.val 0) (xs.getD a.val 0)) _ _ eg w (cmpU_sizes xs gs ao cap w hg hr) (by rw [hs]; simpa using hln)
  have e : srtL (fun a b : Fin xs.length => cmpi (xs.getD b.val 0) (xs.getD a.val 0)) = (l.map Fin.val).map fun (i : Nat) => Value.int .i64 (i : Int) := by
    unfold srtL
    rw [hs]
    simp [encN]
  rwa [e] at this
end Go.Proofs.YtmhjimcdiglpcaaGreatDoor.Dr
/- A draw: whether sizes are sizes; the units that are certain. -/
namespace Go.Proofs.YtmhjimcdiglpcaaGreatDoor.Dr
open Go.RowKit Go.Sort C6 SN

def szOk (x : Int) : Bool := decide (1 ≤ x) && decide (x ≤ 1099511627776)
def szs (xs : List Int) : Bool := decide (1 ≤ xs.length) && xs.all szOk
theorem szs_at {xs : List Int} (h : szs xs = true) {i : Nat} (hi : i < xs.length) : 1 ≤ xs.getD i 0 ∧ xs.getD i 0 ≤ 1099511627776 := by
  unfold szs at h
  rw [Bool.and_eq_true, List.all_eq_true] at h
  have := h.2 (xs.getD i 0) (by simp [List.getD, hi])
  simpa [szOk] using this
theorem szs_bad {xs : List Int} {i : Nat} (hi : i < xs.length) (h : szOk (xs.getD i 0) = false) : szs xs = false := by
  cases hs : szs xs with
  | false => rfl
  | true =>
    have := szs_at hs hi
    simp only [szOk] at h
    rw [decide_eq_true this.1, decide_eq_true this.2] at h
    cases h
theorem szs_good {xs : List Int} (h0 : 1 ≤ xs.length) (h : ∀ i, i < xs.length → szOk (xs.getD i 0) = true) : szs xs = true := by
  unfold szs
  rw [Bool.and_eq_true, List.all_eq_true]
  refine ⟨decide_eq_true h0, fun x hx => ?_⟩
  obtain ⟨i, hi, rfl⟩ := List.mem_iff_getElem.1 hx
  have := h i hi
  simpa [List.getD, hi] using this

set_option maxHeartbeats 4000000 in
theorem areSizes_v (xs : List Int) (ao : Option Addr) (cap : Nat) (w : World) (h19 : xs.length ≤ 19) (hr : RdZ w ao cap xs) :
    Calls Tryz.prog 40 #[.slice ao xs.length cap] w fun e w' => e = .returned (.bool (szs xs)) ∧ w' = w := by
  have hl1 : xs.length ≤ cap := by have := hr.1; rwa [intz_length] at this
  have hl2 := hr.2.1
  obtain ⟨n, hn⟩ : ∃ n, n = xs.length := ⟨_, rfl⟩
  have HN := Lib.hid hn
  have HR := Lib.hid hr
  rw [← hn] at hl1 h19 ⊢
  clear hn hr
  by_cases h0 : n = 0
  · have hz : Hid (szs xs = false) := by unfold Hid szs; rw [← HN.out, h0]; rfl
    obtain ⟨z, hzz⟩ : ∃ z, z = szs xs := ⟨_, rfl⟩
    unfold Hid at hz
    rw [← hzz] at hz ⊢
    subst hz
    subst h0
    clear HN hzz
    go_enter Tryz.func40, Tryz.ntmps40
    go_wp2_with fail
    go_ret
    exact ⟨rfl, rfl⟩
  · have h1 : 1 ≤ n := by omega
    have hnz : ((n : Int) == 0) = false := beq_eq_false_iff_ne.2 (by omega)
    have h200 : decide ((200 : Int) < (n : Int)) = false := decide_eq_false (by omega)
    have GB : Hid (∀ i, i < n → szOk (xs.getD i 0) = false → szs xs = false) := fun i hi h => szs_bad (by rw [← HN.out]; exact hi) h
    have GG : Hid ((∀ i, i < n → szOk (xs.getD i 0) = true) → szs xs = true) := fun h => szs_good (by rw [← HN.out]; exact h1) (fun i hi => h i (by rw [HN.out]; exact hi))
    clear h0
    go_enter Tryz.func40, Tryz.ntmps40
    go_wp2_with fail
    go_loopw [15] (fun s15 wr => ∃ i : Nat, i ≤ n ∧ s15 = .int .i64 (i : Int) ∧ Hid (∀ j, j < i → szOk (xs.getD j 0) = true) ∧ wr = w) (fun s15 _ => n - (intOf s15).toNat)
    case atStart => exact ⟨0, by omega, rfl, fun j hj => by omega, rfl⟩
    case round =>
      obtain ⟨i, hin, rfl, hg, rfl⟩ := hrel
      by_cases hlt : i < n
      · have hlt2 : (i : Int) < (n : Int) := by omega
        obtain ⟨b, o, rfl, hc⟩ := HR.out.atZ (show i < xs.length by rw [← HN.out]; exact hlt)
        obtain ⟨X, hX⟩ : ∃ X, X = xs.getD i 0 := ⟨_, rfl⟩
        have gb := Lib.hid (GB.out i hlt)
        unfold Hid at gb
        rw [← hX] at hc gb
        have gb := Lib.hid gb
        have hg' : Hid (szOk X = true → ∀ j, j < i + 1 → szOk (xs.getD j 0) = true) := fun h j hj => by
          by_cases e : j = i
          · rw [e, ← hX]; exact h
          · exact hg.out j (by omega)
        clear hX hg
        by_cases x1 : X < 1
        · have hf := Lib.hid (gb.out (by unfold szOk; rw [decide_eq_false (by omega)]; rfl))
          go_wp2_with fail
          go_ret
          exact ⟨by rw [hf.out]; rfl, rfl⟩
        · have x1' : decide (X < 1) = false := decide_eq_false x1
          by_cases x2 : 1099511627776 < X
          · have hf := Lib.hid (gb.out (by unfold szOk; rw [decide_eq_false (show ¬ X ≤ 1099511627776 by omega), Bool.and_false]))
            go_wp2_with fail
            go_ret
            exact ⟨by rw [hf.out]; rfl, rfl⟩
          · have x2' : decide (1099511627776 < X) = false := decide_eq_false x2
            have hgg := Lib.hid (hg'.out (by unfold szOk; rw [decide_eq_true (show 1 ≤ X by omega), decide_eq_true (show X ≤ 1099511627776 by omega)]; rfl))
            clear gb hg'
            go_wp2_with fail
            go_roundw
            case rel => exact ⟨i + 1, by omega, by go_num, hgg, by first | rfl | trivial⟩
            case measure => simp [intOf]; omega
      · obtain rfl : i = n := by omega
        have hlt2 : ¬ (i : Int) < (i : Int) := by omega
        have hf := Lib.hid (GG.out hg.out)
        go_wp2_with fail
        go_ret
        exact ⟨by rw [hf.out]; rfl, rfl⟩

/-- the cells of a draw -/
def Dc (w : World) (gd : Nat) (c p : Value) (m i : Int) : Prop := w.heap[gd]? = some (.cells #[c, p, .int .i64 m, .int .i64 i] 50 (0, 0))
theorem Dc.cells {w : World} {gd : Nat} {c p : Value} {m i : Int} (h : Dc w gd c p m i) : w.cell? ⟨gd, 0, none⟩ = some c ∧ w.cell? ⟨gd, 1, none⟩ = some p ∧ w.cell? ⟨gd, 2, none⟩ = some (.int .i64 m) ∧ w.cell? ⟨gd, 3, none⟩ = some (.int .i64 i) ∧
    w.frozen? ⟨gd, 0, none⟩ = false ∧ w.frozen? ⟨gd, 1, none⟩ = false ∧ w.frozen? ⟨gd, 2, none⟩ = false ∧ w.frozen? ⟨gd, 3, none⟩ = false := by
  unfold Dc at h
  refine ⟨?_, ?_, ?_, ?_, ?_, ?_, ?_, ?_⟩ <;> simp [World.cell?, World.frozen?, h]
theorem Dc.lt {w : World} {gd : Nat} {c p : Value} {m i : Int} (h : Dc w gd c p m i) : gd < w.heap.size := (Array.getElem?_eq_some_iff.1 h).1
theorem Dc.set0 {w : World} {gd : Nat} {c p : Value} {m i : Int} (h : Dc w gd c p m i) (v : Value) : Dc (w.setCell ⟨gd, 0, none⟩ v) gd v p m i := by
  unfold Dc at h ⊢; simp [World.setCell, Array.getElem?_modify, h]
theorem Dc.set1 {w : World} {gd : Nat} {c p : Value} {m i : Int} (h : Dc w gd c p m i) (v : Value) : Dc (w.setCell ⟨gd, 1, none⟩ v) gd c v m i := by
  unfold Dc at h ⊢; simp [World.setCell, Array.getElem?_modify, h]
theorem Dc.set2 {w : World} {gd : Nat} {c p : Value} {m i : Int} (h : Dc w gd c p m i) (v : Int) : Dc (w.setCell ⟨gd, 2, none⟩ (.int .i64 v)) gd c p v i := by
  unfold Dc at h ⊢; simp [World.setCell, Array.getElem?_modify, h]
theorem Dc.set3 {w : World} {gd : Nat} {c p : Value} {m i : Int} (h : Dc w gd c p m i) (v : Int) : Dc (w.setCell ⟨gd, 3, none⟩ (.int .i64 v)) gd c p m v := by
  unfold Dc at h ⊢; simp [World.setCell, Array.getElem?_modify, h]
theorem Dc.gb {w w' : World} {gd : Nat} {c p : Value} {m i : Int} {row : Option Nat} (h : Dc w gd c p m i) (g : w.grownBy w' row) (hne : some gd ≠ row) : Dc w' gd c p m i := (g.block gd h.lt hne).trans h
theorem rdv_gb {w w' : World} {g : Nat} {ao : Option Addr} {cap : Nat} {vs : List Value} (h : RdV w ao cap vs) (hb : 0 < vs.length → ∀ b o, ao = some ⟨b, o, none⟩ → b ≠ g) (b : w.grownBy w' (some g)) : RdV w' ao cap vs := by
  refine ⟨h.1, h.2.1, ?_⟩
  rcases h.2.2 with hn | ⟨bk, o, e, hc⟩
  · exact .inl hn
  · refine .inr ⟨bk, o, e, fun i v hi => ?_⟩
    have hl : 0 < vs.length := by have := (List.getElem?_eq_some_iff.1 hi).1; omega
    have h1 := hc i v hi
    have hlt := World.block_lt_of_cell? _ _ h1
    exact (World.cell?_of_block (a := ⟨bk, o + i, none⟩) (b.block bk hlt (fun q => hb hl bk o e (Option.some.inj q)))).trans h1
theorem gbRow {A w w' : World} {B base n size : Nat} {e : TypeId} {v : Value} {xs : List Value} (h : A.grownBy w (some B)) (ho : w.ownsRow base e size v n xs) (hb : A.heap.size ≤ base) (g : w.grownBy w' v.ownBlock) : A.grownBy w' (some B) :=
  ⟨g.os.trans h.os, g.tape.trans h.tape, g.output.trans h.output, Nat.le_trans h.size g.size, fun b hlt hne => (g.block b (Nat.lt_of_lt_of_le hlt h.size) (fun q => by have := (ho.lt b q.symm).1; omega)).trans (h.block b hlt hne)⟩
theorem bdN {B : Nat} {w w' : World} (h : Below B w w') (q : Nat) : Below B w (w'.drewN q) := ⟨h.os, h.tape, h.output, h.size, h.block⟩
theorem gbN {w w' : World} {r : Option Nat} (h : w.grownBy w' r) (q : Nat) : w.grownBy (w'.drewN q) r := ⟨h.os, h.tape, h.output, h.size, h.block⟩
/-- places as values -/
def iz (l : List Nat) : List Int := l.map (fun (i : Nat) => (i : Int))
theorem iz_len (l : List Nat) : (iz l).length = l.length := by simp [iz]
theorem iz_snoc (l : List Nat) (i : Nat) : iz (l ++ [i]) = iz l ++ [(i : Int)] := by simp [iz]
theorem intz_snoc' (l : List Int) (x : Int) : intz (l ++ [x]) = intz l ++ [Value.int .i64 x] := by simp [intz]
theorem iz_vals (l : List Nat) : l.map (fun (i : Nat) => Value.int .i64 (i : Int)) = intz (iz l) := by simp [intz, iz]
/-- what setCertain leaves -/
def SCPost (xs : List Int) (n : Nat) (gd : Nat) (p : Value) (w : World) (e : Ending) (w' : World) : Prop := ∃ (od : List Nat) (K : Nat) (c : Value), e = .returned (.tuple #[]) ∧ Ord xs.length (fun i => xs.getD i 0) od ∧ Cert xs.length (fun i => xs.getD i 0) od n K ∧
  Dc w' gd c p ((n : Int) - (K : Int)) (T (fun i => xs.getD i 0) od K) ∧ w'.ownsRow (gd + 1) 3 1 c K (intz (iz (od.take K))) ∧ Below gd w w'

set_option maxHeartbeats 16000000 in
set_option maxRecDepth 100000 in
theorem setCertain_v (xs : List Int) (n : Nat) (ao : Option Addr) (cap gd : Nat) (p : Value) (w : World) (hv : szs xs = true) (h19 : xs.length ≤ 19) (hn : n ≤ xs.length) (hr : RdZ w ao cap xs) (hrg : 0 < (intz xs).length → ∀ b o, ao = some ⟨b, o, none⟩ → b < gd)
    (hd : Dc w gd (.slice none 0 0) p (n : Int) (((List.range xs.length).map (fun i => xs.getD i 0)).sum)) :
    Calls Tryz.prog 41 #[.pointer (some ⟨gd, 0, none⟩), .slice ao xs.length cap] w (SCPost xs n gd p w) := by
  obtain ⟨i0, hi, hz0, hz1, hz2⟩ := info_partsr infoInt10
  have hx : ∀ i, i < xs.length → 1 ≤ xs.getD i 0 ∧ xs.getD i 0 ≤ 1099511627776 := fun i hi => szs_at hv hi
  have h0 : 0 < xs.length := by unfold szs at hv; rw [Bool.and_eq_true] at hv; have := of_decide_eq_true hv.1; omega
  obtain ⟨W1, hW1⟩ : ∃ W, W = w.alloc (.cells #[.slice ao xs.length cap] 26) := ⟨_, rfl⟩
  obtain ⟨g3, hg3⟩ : ∃ g, g = w.heap.size := ⟨_, rfl⟩
  have b1 : Below w.heap.size w W1 := by rw [hW1]; exact below_new _ _
  have x1 : W1.heap[g3]? = some (.cells #[.slice ao xs.length cap] 26 (0, 0)) := by rw [hW1, hg3]; exact heap_alloc_new _ _
  have s1 : W1.heap.size = g3 + 1 := by rw [hW1, hg3]; exact World.size_alloc _ _
  have d1 : Dc W1 gd (.slice none 0 0) p (n : Int) (((List.range xs.length).map (fun i => xs.getD i 0)).sum) := (b1.block gd hd.lt).trans hd
  have r1 : RdZ W1 ao cap xs := hr.below b1
  have hgl : gd < g3 := by rw [hg3]; exact hd.lt
  obtain ⟨od, ho, RK⟩ := ranked_sizes xs h0 h19 g3 ao cap W1 x1 r1
  obtain ⟨K, hK⟩ := cert_ex (fun i => xs.getD i 0) od (N := xs.length) n
  have hKn := hK.K_le ho hx
  have hKN := hK.le
  rw [← T_all ho] at d1
  obtain ⟨x, hxx⟩ : ∃ x : Nat → Int, x = fun i => xs.getD i 0 := ⟨_, rfl⟩
  have hx' : Hid (∀ i, i < xs.length → 1 ≤ x i ∧ x i ≤ 1099511627776) := by rw [hxx]; exact hx
  have HX : Hid (∀ i, x i = xs.getD i 0) := fun i => by rw [hxx]
  have POST : Hid (∀ w' c, Dc w' gd c p ((n : Int) - (K : Int)) (T x od K) → w'.ownsRow (gd + 1) 3 1 c K (intz (iz (od.take K))) → Below gd w w' → SCPost xs n gd p w (.returned (.tuple #[])) w') := fun w' c h1 h2 h3 => ⟨od, K, c, rfl, ho, hK, by rw [hxx] at h1; exact h1, h2, h3⟩
  rw [← hxx] at ho hK d1
  obtain ⟨N, hN⟩ : ∃ N, N = xs.length := ⟨_, rfl⟩
  unfold Hid at hx'
  rw [← hN] at hx' ho hK h19 hn hKN x1 RK h0
  have hl1 : N ≤ cap := by have := hr.1; rw [intz_length, ← hN] at this; exact this
  have hl2 := hr.2.1
  have HX1 := Lib.hid x1
  have HO := Lib.hid ho
  have HK := Lib.hid hK
  have HXB : Hid (∀ i, i < N → 1 ≤ x i ∧ x i ≤ 1099511627776) := hx'
  have HD1 := Lib.hid d1
  have HR1 := Lib.hid r1
  have HRG : Hid (0 < (intz xs).length → ∀ b o, ao = some ⟨b, o, none⟩ → b < gd) := hrg
  have HN := Lib.hid hN
  have HB1 : Hid (Below gd w W1) := b1.mono (Nat.le_of_lt hd.lt)
  have HS1 := Lib.hid s1
  have HRK := Lib.hid RK
  rw [← hN] at hW1 ⊢
  clear hx hv hxx hx' ho hK d1 r1 hrg hN b1 s1 RK x1 hr hd
  go_enter Tryz.func41, Tryz.ntmps41
  go_upto_region 1 with fail
  rw [← hW1]
  try rw [← hg3]
  clear hW1 hg3
  have k3 : W1.cell? ⟨g3, 0, none⟩ = some (.slice ao N cap) := by simp [World.cell?, HX1.out]
  go_wp2_with fail
  refine HRK.out.mono ?_; rintro e W3 ⟨gl, rfl, hrow, b3⟩
  have hgl3 := hrow.lt gl rfl
  have HSZ : Hid (gd < W3.heap.size ∧ g3 < W3.heap.size ∧ gd ≠ gl ∧ gd + 1 ≤ W3.heap.size) := by
    have := HS1.out
    have := b3.size
    exact ⟨by omega, by omega, by omega, by omega⟩
  have HL : Hid (RdZ W3 (some ⟨gl, 0, none⟩) N (iz od)) := by rw [iz_vals] at hrow; exact rdz_row (by rw [iz_len, HO.out.len]) hrow
  have HD3 : Hid (Dc W3 gd (.slice none 0 0) p (n : Int) (T x od 0)) := HD1.out.gb (C6.below_gb b3 none) (by simp)
  have HR3 := Lib.hid (HR1.out.below b3)
  have HX3 : Hid (W3.heap[g3]? = some (.cells #[.slice ao N cap] 26 (0, 0))) := (b3.block g3 (by rw [HS1.out]; omega)).trans HX1.out
  have HB3 : Hid (Below gd w W3) := HB1.out.trans (b3.mono (by rw [HS1.out]; omega))
  clear hrow b3 hgl3 HD1 HR1 HX1 HB1 k3 HRK
  obtain ⟨M, hM⟩ : ∃ M, M = W3.heap.size := ⟨_, rfl⟩
  have HM := Lib.hid hM
  clear hM
  go_wp2_with fail
  go_loopw [13] (fun s13 wr => ∃ (k : Nat) (v : Value), k ≤ K ∧ s13 = .int .i64 (k : Int) ∧ Hid (Dc wr gd v p ((n : Int) - (k : Int)) (T x od k)) ∧ Hid (wr.ownsRow M 3 1 v k (intz (iz (od.take k)))) ∧ Hid (W3.grownBy wr (some gd))) (fun s13 _ => N - (intOf s13).toNat)
  case atStart => exact ⟨0, .slice none 0 0, by omega, rfl, by have := HD3.out; unfold Hid; simpa using this, (show World.ownsRow _ M _ 1 _ 0 (intz (iz (od.take 0))) from World.ownsRow_nil _ _ _ _), World.grownBy.refl _ _⟩
  case round =>
    obtain ⟨k, v, hkK, rfl, hdc, hown, hgb⟩ := hrel
    have hBW : Hid (Below gd w wr) := HB3.out.trans (row_gb hgb.out (Nat.le_of_lt HSZ.out.1) (fun j e => by cases e; exact Nat.le_refl _))
    by_cases hlt : k < N
    · have hlt2 : (k : Int) < (N : Int) := by omega
      obtain ⟨o, hoo⟩ : ∃ o, o = od.getD k 0 := ⟨_, rfl⟩
      have hoN : o < N := by rw [hoo]; exact HO.out.get hlt
      have HLw := rdv_gb HL.out (fun _ b f e => by cases e; exact fun q => HSZ.out.2.2.1 q.symm) hgb.out
      have kl : wr.cell? ⟨gl, k, none⟩ = some (.int .i64 (o : Int)) := by
        obtain ⟨b', f', e', hc⟩ := RdV.atZ HLw (show k < (iz od).length by rw [iz_len, HO.out.len]; exact hlt)
        cases e'
        rw [Nat.zero_add] at hc
        rw [hc, hoo]
        have hk2 : k < od.length := by rw [HO.out.len]; exact hlt
        simp [iz, List.getD, hk2]
      have HRw := rdv_gb HR3.out (fun h b f e => Nat.ne_of_lt (HRG.out h b f e)) hgb.out
      obtain ⟨b, f0, rfl, kx⟩ := RdV.atZ HRw (show o < xs.length by rw [← HN.out]; exact hoN)
      obtain ⟨X, hX⟩ : ∃ X, X = x o := ⟨_, rfl⟩
      have hXb : 1 ≤ X ∧ X ≤ 1099511627776 := by rw [hX]; exact HXB.out o hoN
      rw [← HX.out o, ← hX] at kx
      have k3 : wr.cell? ⟨g3, 0, none⟩ = some (.slice (some ⟨b, f0, none⟩) N cap) := by
        have := (hgb.out.block g3 HSZ.out.2.1 (by simp; omega)).trans HX3.out
        simp [World.cell?, this]
      obtain ⟨A, hA⟩ : ∃ A, A = T x od k := ⟨_, rfl⟩
      obtain ⟨A1, hA1⟩ : ∃ A, A = T x od (k + 1) := ⟨_, rfl⟩
      have hAA : A - X = A1 := by rw [hA, hA1, hX, hoo, T_next HO.out hlt]; omega
      have hAb := T_bd HO.out HXB.out (N - k) k (by omega)
      have hA1b := T_bd HO.out HXB.out (N - (k + 1)) (k + 1) (by omega)
      rw [← hA] at hAb
      rw [← hA1] at hA1b
      have hA1w : IntKind.i64.wrap A1 = A1 := IntWalk.i64_in _ (by omega)
      obtain ⟨m, hm⟩ : ∃ m : Int, m = (n : Int) - (k : Int) := ⟨_, rfl⟩
      have hm0 : 0 ≤ m ∧ m ≤ 19 := by omega
      obtain ⟨P, hP⟩ : ∃ P, P = X * m := ⟨_, rfl⟩
      have hPb : 0 ≤ P ∧ P ≤ 1099511627776 * 19 := by
        rw [hP]
        exact ⟨Int.mul_nonneg (by omega) hm0.1, Int.mul_le_mul hXb.2 hm0.2 hm0.1 (by omega)⟩
      have hPP : X * m = P := hP.symm
      have hPw : IntKind.i64.wrap P = P := IntWalk.i64_in _ (by omega)
      have hstop : Hid (k < K ↔ A ≤ P) := by
        unfold Hid
        constructor
        · intro h; have := HK.out.go k h; rw [← hA, ← hoo, ← hX, ← hm, ← hP] at this; exact this
        · intro h
          by_cases e : k < K
          · exact e
          · exfalso
            have e2 : k = K := by omega
            have := HK.out.stop (by omega)
            rw [← e2, ← hA, ← hoo, ← hX, ← hm, ← hP] at this
            omega
      rw [← hA, ← hm] at hdc
      obtain ⟨q0, q1, q2, q3, z0, z1, z2, z3⟩ := hdc.out.cells
      have HmK := Lib.hid hm
      have HA := Lib.hid hA
      have HA1 := Lib.hid hA1
      have HOO := Lib.hid hoo
      have hXo := Lib.hid hX.symm
      have HAA := Lib.hid hAA
      have hic : o < cap := by omega
      have hoI : (o : Int) < (N : Int) := by omega
      clear hX HLw HRw hm hP hA hA1 hoo hAb hA1b hAA
      by_cases hst : P < A
      · have hkk : Hid (k = K) := by
          have := hstop.out
          unfold Hid
          by_cases e : k < K
          · have := this.1 e; omega
          · omega
        go_wp2_with fail
        go_quiet (fail)
        go_wp2_with fail
        go_end0
        have h1 := hdc.out
        rw [HA.out, HmK.out, hkk.out] at h1
        have h2 := row_lift hown.out (show gd + 1 ≤ M by rw [HM.out]; exact HSZ.out.2.2.2)
        rw [hkk.out] at h2
        exact POST.out _ _ h1 h2 (bdN hBW.out _)
      · have hst' : decide (P < A) = false := decide_eq_false hst
        have hkK2 : k < K := hstop.out.2 (by omega)
        clear hstop hBW
        go_upto_region 6 with (go_quiet (fail))
        obtain ⟨V, hV⟩ : ∃ V, V = wr.drewN nq := ⟨_, rfl⟩
        have vd : Hid (Dc V gd v p m A) := by rw [hV]; exact hdc.out
        have vown : Hid (V.ownsRow M 3 1 v k (intz (iz (od.take k)))) := by rw [hV]; exact hown.out
        have vgb : Hid (W3.grownBy V (some gd)) := by rw [hV]; exact gbN hgb.out _
        rw [← hV]
        clear hV hdc hown hgb kx k3 kl q0 q1 q2 q3 z0 z1 z2 z3
        obtain ⟨q0, q1, q2, q3, z0, z1, z2, z3⟩ := vd.out.cells
        have hMg : gd < M := by rw [HM.out]; exact HSZ.out.1
        have hMw : M ≤ V.heap.size := by rw [HM.out]; exact vgb.out.size
        go_upto_region 7 with (at_builtin; refine wpList_append_own _ rfl _ _ 22 rfl M 3 i0 (.int .i64 0) 1 8 Tryz.underlying22 hi hz0 hz1 hz2 rfl (by omega) _ _ _ rfl (vown.out.alloc _) ⟨V.heap.size, 0, none⟩ 1 1 [.int .i64 (o : Int)] rfl rfl (cell_one _ _ _) (by intro u hu; simp at hu; rcases hu with rfl; rfl) (by unfold maxLen; omega) (by omega) (by simp; omega) ?_; intro v8 w8 hown8 hgr8 _; obtain ⟨a8, c8, rfl⟩ := row_n hown8; have HO8 := Lib.hid hown8; have HG8 := Lib.hid hgr8; have D8 := Lib.hid ((vd.out.gb (World.grownBy_alloc V (.cells #[.int .i64 (o : Int)] 3) none) (by simp)).gb hgr8 (fun q => by have := (vown.out.lt _ q.symm).1; omega)); have VG8 := Lib.hid (gbRow (gb_trans vgb.out (World.grownBy_alloc V (.cells #[.int .i64 (o : Int)] 3) (some gd))) (vown.out.alloc _) (by rw [HM.out]; exact Nat.le_refl _) hgr8); obtain ⟨p0, p1, p2, p3, y0, y1, y2, y3⟩ := D8.out.cells; clear hown8 hgr8 q0 q1 q2 q3 z0 z1 z2 z3)
        obtain ⟨W9, hW9⟩ : ∃ W, W = w8.setCell ⟨gd, 0, none⟩ (.slice a8 (k + 1) c8) := ⟨_, rfl⟩
        have D9 : Hid (Dc W9 gd (.slice a8 (k + 1) c8) p m A) := by rw [hW9]; exact D8.out.set0 _
        have own9 : Hid (W9.ownsRow M 3 1 (.slice a8 (k + 1) c8) (k + 1) (intz (iz (od.take (k + 1))))) := by
          have e : intz (iz (od.take (k + 1))) = intz (iz (od.take k)) ++ [Value.int .i64 (o : Int)] := by
            rw [take_getD od (by rw [HO.out.len]; exact hlt), ← HOO.out, iz_snoc, intz_snoc']
          unfold Hid
          rw [hW9, e]
          exact HO8.out.kept (gbs _ _ _ _) (C6.row_block HO8.out hMg)
        have gb9 : Hid (W3.grownBy W9 (some gd)) := by rw [hW9]; exact gb_trans VG8.out (gbs _ _ _ _)
        have k9 : Hid (W9.cell? ⟨g3, 0, none⟩ = some (.slice (some ⟨b, f0, none⟩) N cap)) := by
          have := (gb9.out.block g3 HSZ.out.2.1 (by simp; omega)).trans HX3.out
          unfold Hid
          simp [World.cell?, this]
        have x9 : Hid (W9.cell? ⟨b, f0 + o, none⟩ = some (.int .i64 X)) := by
          obtain ⟨b', f', e', hc⟩ := RdV.atZ (rdv_gb HR3.out (fun h b f e => Nat.ne_of_lt (HRG.out h b f e)) gb9.out) (show o < xs.length by rw [← HN.out]; exact hoN)
          cases e'
          unfold Hid
          rw [hc, ← HX.out o, hXo.out]
        rw [← hW9]
        clear hW9 p0 p1 p2 p3 y0 y1 y2 y3 D8 HO8 HG8 VG8 vd vown vgb
        obtain ⟨m1, hm1⟩ : ∃ y : Int, y = m - 1 := ⟨_, rfl⟩
        have hm1w : IntKind.i64.wrap m1 = m1 := IntWalk.i64_in _ (by omega)
        have HM1 := Lib.hid hm1
        have hm1' : m - 1 = m1 := hm1.symm
        clear hm1
        have hXA : A - X = A1 := HAA.out
        refine wp_region_any (by kernel_rfl) ?_
        refine region_ssa [41, 42, 43, 44, 45, 46, 47, 48, 49, 50, 51] (fun _ => True) (fun _ _ => True) (RP [pV (.pointer (some ⟨gd, 0, none⟩)), pV (.pointer (some ⟨gd, 0, none⟩)), pV (.pointer (some ⟨gd, 3, none⟩)), pV (.int .i64 A), pV (.slice (some ⟨b, f0, none⟩) N cap), pV (.int .i64 (o : Int)), pV (.pointer (some ⟨b, f0 + o, none⟩)), pV (.int .i64 X), pV (.int .i64 A1), pV (.pointer (some ⟨gd, 0, none⟩)), pV (.pointer (some ⟨gd, 3, none⟩)), pT]) (fun D _ w1 => w1 = bif D 11 then W9.drew.setCell ⟨gd, 3, none⟩ (.int .i64 A1) else W9.drew) (fun f => rfl) (by kernel_rfl) (by kernel_rfl) ?_ ?_ ?_ ?_ (AllF.below (n := 12) ?_) ?_
        · trivial
        · intro f; rfl
        · intro jx vx w1 w2 _ h _; exact h
        · intro w1 w2 _ _; trivial
        · refine AllF.step (m := 11) (j := 1) rfl ?_ ?_
          · intro D f w1 hD hB hR hp hcl hX
            have hj : D 11 = false := noF (hcl 11) (by kernel_rfl) hD
            have hw : w1 = W9.drew := by have h := hX; rw [hj] at h; exact h
            have HJ : Hid (upd D 0 11 = false) := hj
            clear hj
            subst hw
            clear hX hcl hB hD hR hp
            have k0 : W9.drew.cell? ⟨g3, 0, none⟩ = some (.slice (some ⟨b, f0, none⟩) N cap) := k9.out
            have k1 : W9.drew.cell? ⟨b, f0 + o, none⟩ = some (.int .i64 X) := x9.out
            obtain ⟨q0, q1, q2, q3, z0, z1, z2, z3⟩ := (show Dc W9.drew gd (.slice a8 (k + 1) c8) p m A from D9.out).cells
            refine wpOp_step rfl (fun K hK => ?_)
            simp only [putAll, Act.put, List.setIfInBounds_toArray, List.set_cons_succ, List.set_cons_zero]
            go_simp
            exact hK _ _ ⟨.pointer (some ⟨gd, 0, none⟩), (by show _ = Act.put _ (some 41) _; simp only [putAll, Act.put, List.setIfInBounds_toArray, List.set_cons_succ, List.set_cons_zero, *]; all_goals rfl), rfl, trivial, by show _ = bif upd D 0 11 then _ else _; rw [HJ.out]; rfl⟩
          refine AllF.step (m := 10) (j := 2) rfl ?_ ?_
          · intro D f w1 hD hB hR hp hcl hX
            have e0 : f 41 = .pointer (some ⟨gd, 0, none⟩) := (hpAt hp 0 (by kernel_rfl)).2
            have hj : D 11 = false := noF (hcl 11) (by kernel_rfl) hD
            have hw : w1 = W9.drew := by have h := hX; rw [hj] at h; exact h
            have HJ : Hid (upd D 1 11 = false) := hj
            clear hj
            subst hw
            clear hX hcl hB hD hR hp
            have k0 : W9.drew.cell? ⟨g3, 0, none⟩ = some (.slice (some ⟨b, f0, none⟩) N cap) := k9.out
            have k1 : W9.drew.cell? ⟨b, f0 + o, none⟩ = some (.int .i64 X) := x9.out
            obtain ⟨q0, q1, q2, q3, z0, z1, z2, z3⟩ := (show Dc W9.drew gd (.slice a8 (k + 1) c8) p m A from D9.out).cells
            refine wpOp_step rfl (fun K hK => ?_)
            simp only [putAll, Act.put, List.setIfInBounds_toArray, List.set_cons_succ, List.set_cons_zero]
            go_simp
            exact hK _ _ ⟨.pointer (some ⟨gd, 0, none⟩), (by show _ = Act.put _ (some 42) _; simp only [putAll, Act.put, List.setIfInBounds_toArray, List.set_cons_succ, List.set_cons_zero, *]; all_goals rfl), rfl, trivial, by show _ = bif upd D 1 11 then _ else _; rw [HJ.out]; rfl⟩
          refine AllF.step (m := 9) (j := 3) rfl ?_ ?_
          · intro D f w1 hD hB hR hp hcl hX
            have e1 : f 42 = .pointer (some ⟨gd, 0, none⟩) := (hpAt hp 1 (by kernel_rfl)).2
            have hj : D 11 = false := noF (hcl 11) (by kernel_rfl) hD
            have hw : w1 = W9.drew := by have h := hX; rw [hj] at h; exact h
            have HJ : Hid (upd D 2 11 = false) := hj
            clear hj
            subst hw
            clear hX hcl hB hD hR hp
            have k0 : W9.drew.cell? ⟨g3, 0, none⟩ = some (.slice (some ⟨b, f0, none⟩) N cap) := k9.out
            have k1 : W9.drew.cell? ⟨b, f0 + o, none⟩ = some (.int .i64 X) := x9.out
            obtain ⟨q0, q1, q2, q3, z0, z1, z2, z3⟩ := (show Dc W9.drew gd (.slice a8 (k + 1) c8) p m A from D9.out).cells
            refine wpOp_step rfl (fun K hK => ?_)
            simp only [putAll, Act.put, List.setIfInBounds_toArray, List.set_cons_succ, List.set_cons_zero]
            go_simp
            exact hK _ _ ⟨.pointer (some ⟨gd, 3, none⟩), (by show _ = Act.put _ (some 43) _; simp only [putAll, Act.put, List.setIfInBounds_toArray, List.set_cons_succ, List.set_cons_zero, *]; all_goals rfl), rfl, trivial, by show _ = bif upd D 2 11 then _ else _; rw [HJ.out]; rfl⟩
          refine AllF.step (m := 8) (j := 4) rfl ?_ ?_
          · intro D f w1 hD hB hR hp hcl hX
            have e2 : f 43 = .pointer (some ⟨gd, 3, none⟩) := (hpAt hp 2 (by kernel_rfl)).2
            have hj : D 11 = false := noF (hcl 11) (by kernel_rfl) hD
            have hw : w1 = W9.drew := by have h := hX; rw [hj] at h; exact h
            have HJ : Hid (upd D 3 11 = false) := hj
            clear hj
            subst hw
            clear hX hcl hB hD hR hp
            have k0 : W9.drew.cell? ⟨g3, 0, none⟩ = some (.slice (some ⟨b, f0, none⟩) N cap) := k9.out
            have k1 : W9.drew.cell? ⟨b, f0 + o, none⟩ = some (.int .i64 X) := x9.out
            obtain ⟨q0, q1, q2, q3, z0, z1, z2, z3⟩ := (show Dc W9.drew gd (.slice a8 (k + 1) c8) p m A from D9.out).cells
            refine wpOp_step rfl (fun K hK => ?_)
            simp only [putAll, Act.put, List.setIfInBounds_toArray, List.set_cons_succ, List.set_cons_zero]
            go_simp
            exact hK _ _ ⟨.int .i64 A, (by show _ = Act.put _ (some 44) _; simp only [putAll, Act.put, List.setIfInBounds_toArray, List.set_cons_succ, List.set_cons_zero, *]; all_goals rfl), rfl, trivial, by show _ = bif upd D 3 11 then _ else _; rw [HJ.out]; rfl⟩
          refine AllF.step (m := 7) (j := 5) rfl ?_ ?_
          · intro D f w1 hD hB hR hp hcl hX
            have hj : D 11 = false := noF (hcl 11) (by kernel_rfl) hD
            have hw : w1 = W9.drew := by have h := hX; rw [hj] at h; exact h
            have HJ : Hid (upd D 4 11 = false) := hj
            clear hj
            subst hw
            clear hX hcl hB hD hR hp
            have k0 : W9.drew.cell? ⟨g3, 0, none⟩ = some (.slice (some ⟨b, f0, none⟩) N cap) := k9.out
            have k1 : W9.drew.cell? ⟨b, f0 + o, none⟩ = some (.int .i64 X) := x9.out
            obtain ⟨q0, q1, q2, q3, z0, z1, z2, z3⟩ := (show Dc W9.drew gd (.slice a8 (k + 1) c8) p m A from D9.out).cells
            refine wpOp_step rfl (fun K hK => ?_)
            simp only [putAll, Act.put, List.setIfInBounds_toArray, List.set_cons_succ, List.set_cons_zero]
            go_simp
            exact hK _ _ ⟨.slice (some ⟨b, f0, none⟩) N cap, (by show _ = Act.put _ (some 45) _; simp only [putAll, Act.put, List.setIfInBounds_toArray, List.set_cons_succ, List.set_cons_zero, *]; all_goals rfl), rfl, trivial, by show _ = bif upd D 4 11 then _ else _; rw [HJ.out]; rfl⟩
          refine AllF.step (m := 6) (j := 6) rfl ?_ ?_
          · intro D f w1 hD hB hR hp hcl hX
            have hj : D 11 = false := noF (hcl 11) (by kernel_rfl) hD
            have hw : w1 = W9.drew := by have h := hX; rw [hj] at h; exact h
            have HJ : Hid (upd D 5 11 = false) := hj
            clear hj
            subst hw
            clear hX hcl hB hD hR hp
            have k0 : W9.drew.cell? ⟨g3, 0, none⟩ = some (.slice (some ⟨b, f0, none⟩) N cap) := k9.out
            have k1 : W9.drew.cell? ⟨b, f0 + o, none⟩ = some (.int .i64 X) := x9.out
            obtain ⟨q0, q1, q2, q3, z0, z1, z2, z3⟩ := (show Dc W9.drew gd (.slice a8 (k + 1) c8) p m A from D9.out).cells
            refine wpOp_step rfl (fun K hK => ?_)
            simp only [putAll, Act.put, List.setIfInBounds_toArray, List.set_cons_succ, List.set_cons_zero]
            go_simp
            exact hK _ _ ⟨.int .i64 (o : Int), (by show _ = Act.put _ (some 46) _; simp only [putAll, Act.put, List.setIfInBounds_toArray, List.set_cons_succ, List.set_cons_zero, *]; all_goals rfl), rfl, trivial, by show _ = bif upd D 5 11 then _ else _; rw [HJ.out]; rfl⟩
          refine AllF.step (m := 5) (j := 7) rfl ?_ ?_
          · intro D f w1 hD hB hR hp hcl hX
            have e4 : f 45 = .slice (some ⟨b, f0, none⟩) N cap := (hpAt hp 4 (by kernel_rfl)).2
            have e5 : f 46 = .int .i64 (o : Int) := (hpAt hp 5 (by kernel_rfl)).2
            have hj : D 11 = false := noF (hcl 11) (by kernel_rfl) hD
            have hw : w1 = W9.drew := by have h := hX; rw [hj] at h; exact h
            have HJ : Hid (upd D 6 11 = false) := hj
            clear hj
            subst hw
            clear hX hcl hB hD hR hp
            have k0 : W9.drew.cell? ⟨g3, 0, none⟩ = some (.slice (some ⟨b, f0, none⟩) N cap) := k9.out
            have k1 : W9.drew.cell? ⟨b, f0 + o, none⟩ = some (.int .i64 X) := x9.out
            obtain ⟨q0, q1, q2, q3, z0, z1, z2, z3⟩ := (show Dc W9.drew gd (.slice a8 (k + 1) c8) p m A from D9.out).cells
            refine wpOp_step rfl (fun K hK => ?_)
            simp only [putAll, Act.put, List.setIfInBounds_toArray, List.set_cons_succ, List.set_cons_zero]
            go_simp
            exact hK _ _ ⟨.pointer (some ⟨b, f0 + o, none⟩), (by show _ = Act.put _ (some 47) _; simp only [putAll, Act.put, List.setIfInBounds_toArray, List.set_cons_succ, List.set_cons_zero, *]; all_goals rfl), rfl, trivial, by show _ = bif upd D 6 11 then _ else _; rw [HJ.out]; rfl⟩
          refine AllF.step (m := 4) (j := 8) rfl ?_ ?_
          · intro D f w1 hD hB hR hp hcl hX
            have e6 : f 47 = .pointer (some ⟨b, f0 + o, none⟩) := (hpAt hp 6 (by kernel_rfl)).2
            have hj : D 11 = false := noF (hcl 11) (by kernel_rfl) hD
            have hw : w1 = W9.drew := by have h := hX; rw [hj] at h; exact h
            have HJ : Hid (upd D 7 11 = false) := hj
            clear hj
            subst hw
            clear hX hcl hB hD hR hp
            have k0 : W9.drew.cell? ⟨g3, 0, none⟩ = some (.slice (some ⟨b, f0, none⟩) N cap) := k9.out
            have k1 : W9.drew.cell? ⟨b, f0 + o, none⟩ = some (.int .i64 X) := x9.out
            obtain ⟨q0, q1, q2, q3, z0, z1, z2, z3⟩ := (show Dc W9.drew gd (.slice a8 (k + 1) c8) p m A from D9.out).cells
            refine wpOp_step rfl (fun K hK => ?_)
            simp only [putAll, Act.put, List.setIfInBounds_toArray, List.set_cons_succ, List.set_cons_zero]
            go_simp
            exact hK _ _ ⟨.int .i64 X, (by show _ = Act.put _ (some 48) _; simp only [putAll, Act.put, List.setIfInBounds_toArray, List.set_cons_succ, List.set_cons_zero, *]; all_goals rfl), rfl, trivial, by show _ = bif upd D 7 11 then _ else _; rw [HJ.out]; rfl⟩
          refine AllF.step (m := 3) (j := 9) rfl ?_ ?_
          · intro D f w1 hD hB hR hp hcl hX
            have e3 : f 44 = .int .i64 A := (hpAt hp 3 (by kernel_rfl)).2
            have e7 : f 48 = .int .i64 X := (hpAt hp 7 (by kernel_rfl)).2
            have hj : D 11 = false := noF (hcl 11) (by kernel_rfl) hD
            have hw : w1 = W9.drew := by have h := hX; rw [hj] at h; exact h
            have HJ : Hid (upd D 8 11 = false) := hj
            clear hj
            subst hw
            clear hX hcl hB hD hR hp
            have k0 : W9.drew.cell? ⟨g3, 0, none⟩ = some (.slice (some ⟨b, f0, none⟩) N cap) := k9.out
            have k1 : W9.drew.cell? ⟨b, f0 + o, none⟩ = some (.int .i64 X) := x9.out
            obtain ⟨q0, q1, q2, q3, z0, z1, z2, z3⟩ := (show Dc W9.drew gd (.slice a8 (k + 1) c8) p m A from D9.out).cells
            refine wpOp_step rfl (fun K hK => ?_)
            simp only [putAll, Act.put, List.setIfInBounds_toArray, List.set_cons_succ, List.set_cons_zero]
            go_simp
            exact hK _ _ ⟨.int .i64 A1, (by show _ = Act.put _ (some 49) _; simp only [putAll, Act.put, List.setIfInBounds_toArray, List.set_cons_succ, List.set_cons_zero, *]; all_goals rfl), rfl, trivial, by show _ = bif upd D 8 11 then _ else _; rw [HJ.out]; rfl⟩
          refine AllF.step (m := 2) (j := 10) rfl ?_ ?_
          · intro D f w1 hD hB hR hp hcl hX
            have e0 : f 41 = .pointer (some ⟨gd, 0, none⟩) := (hpAt hp 0 (by kernel_rfl)).2
            have hj : D 11 = false := noF (hcl 11) (by kernel_rfl) (noF (j := 10) (hcl 10) (by kernel_rfl) hD)
            have hw : w1 = W9.drew := by have h := hX; rw [hj] at h; exact h
            have HJ : Hid (upd D 9 11 = false) := hj
            clear hj
            subst hw
            clear hX hcl hB hD hR hp
            have k0 : W9.drew.cell? ⟨g3, 0, none⟩ = some (.slice (some ⟨b, f0, none⟩) N cap) := k9.out
            have k1 : W9.drew.cell? ⟨b, f0 + o, none⟩ = some (.int .i64 X) := x9.out
            obtain ⟨q0, q1, q2, q3, z0, z1, z2, z3⟩ := (show Dc W9.drew gd (.slice a8 (k + 1) c8) p m A from D9.out).cells
            refine wpOp_step rfl (fun K hK => ?_)
            simp only [putAll, Act.put, List.setIfInBounds_toArray, List.set_cons_succ, List.set_cons_zero]
            go_simp
            exact hK _ _ ⟨.pointer (some ⟨gd, 0, none⟩), (by show _ = Act.put _ (some 50) _; simp only [putAll, Act.put, List.setIfInBounds_toArray, List.set_cons_succ, List.set_cons_zero, *]; all_goals rfl), rfl, trivial, by show _ = bif upd D 9 11 then _ else _; rw [HJ.out]; rfl⟩
          refine AllF.step (m := 1) (j := 11) rfl ?_ ?_
          · intro D f w1 hD hB hR hp hcl hX
            have e9 : f 50 = .pointer (some ⟨gd, 0, none⟩) := (hpAt hp 9 (by kernel_rfl)).2
            have hj : D 11 = false := noF (hcl 11) (by kernel_rfl) hD
            have hw : w1 = W9.drew := by have h := hX; rw [hj] at h; exact h
            have HJ : Hid (upd D 10 11 = false) := hj
            clear hj
            subst hw
            clear hX hcl hB hD hR hp
            have k0 : W9.drew.cell? ⟨g3, 0, none⟩ = some (.slice (some ⟨b, f0, none⟩) N cap) := k9.out
            have k1 : W9.drew.cell? ⟨b, f0 + o, none⟩ = some (.int .i64 X) := x9.out
            obtain ⟨q0, q1, q2, q3, z0, z1, z2, z3⟩ := (show Dc W9.drew gd (.slice a8 (k + 1) c8) p m A from D9.out).cells
            refine wpOp_step rfl (fun K hK => ?_)
            simp only [putAll, Act.put, List.setIfInBounds_toArray, List.set_cons_succ, List.set_cons_zero]
            go_simp
            exact hK _ _ ⟨.pointer (some ⟨gd, 3, none⟩), (by show _ = Act.put _ (some 51) _; simp only [putAll, Act.put, List.setIfInBounds_toArray, List.set_cons_succ, List.set_cons_zero, *]; all_goals rfl), rfl, trivial, by show _ = bif upd D 10 11 then _ else _; rw [HJ.out]; rfl⟩
          refine AllF.step (m := 0) (j := 12) rfl ?_ ?_
          · intro D f w1 hD hB hR hp hcl hX
            have e8 : f 49 = .int .i64 A1 := (hpAt hp 8 (by kernel_rfl)).2
            have e10 : f 51 = .pointer (some ⟨gd, 3, none⟩) := (hpAt hp 10 (by kernel_rfl)).2
            have hw : w1 = W9.drew := by have h := hX; rw [hD] at h; exact h
            subst hw
            clear hX hcl hB hD hR hp
            have k0 : W9.drew.cell? ⟨g3, 0, none⟩ = some (.slice (some ⟨b, f0, none⟩) N cap) := k9.out
            have k1 : W9.drew.cell? ⟨b, f0 + o, none⟩ = some (.int .i64 X) := x9.out
            obtain ⟨q0, q1, q2, q3, z0, z1, z2, z3⟩ := (show Dc W9.drew gd (.slice a8 (k + 1) c8) p m A from D9.out).cells
            refine wpOp_step rfl (fun K hK => ?_)
            simp only [putAll, Act.put, List.setIfInBounds_toArray, List.set_cons_succ, List.set_cons_zero]
            go_simp
            exact hK _ _ ⟨undef, (by show _ = Act.put _ (none) _; simp only [putAll, Act.put, List.setIfInBounds_toArray, List.set_cons_succ, List.set_cons_zero, *]; all_goals rfl), trivial, trivial, by rfl⟩
          exact trivial
        · intro D f w1 hall hB hR hX
          have hw : w1 = W9.drew.setCell ⟨gd, 3, none⟩ (.int .i64 A1) := by have h := hX; rw [hall 11 (by decide)] at h; exact h
          simp only [putAll, Act.put, List.setIfInBounds_toArray, List.set_cons_succ, List.set_cons_zero]
          clear hall hB hR hX
          have D10 : Hid (Dc w1 gd (.slice a8 (k + 1) c8) p m A1) := by rw [hw]; exact (show Dc W9.drew gd (.slice a8 (k + 1) c8) p m A from D9.out).set3 A1
          have own10 : Hid (w1.ownsRow M 3 1 (.slice a8 (k + 1) c8) (k + 1) (intz (iz (od.take (k + 1))))) := by rw [hw]; exact (show W9.drew.ownsRow M 3 1 _ _ _ from own9.out).kept (gbs _ _ _ _) (C6.row_block (show W9.drew.ownsRow M 3 1 _ _ _ from own9.out) hMg)
          have gb10 : Hid (W3.grownBy w1 (some gd)) := by rw [hw]; exact gb_trans (show W3.grownBy W9.drew (some gd) from gbN gb9.out 1) (gbs _ _ _ _)
          clear hw
          obtain ⟨q0, q1, q2, q3, z0, z1, z2, z3⟩ := D10.out.cells
          go_wp2_with fail
          go_roundw
          case rel =>
            refine ⟨k + 1, .slice a8 (k + 1) c8, by omega, by go_num, ?_, own10.out.kept (gbs _ _ _ _) (C6.row_block own10.out hMg), gb_trans gb10.out (gbs _ _ _ _)⟩
            have := D10.out.set2 m1
            have e1 : (n : Int) - ((k + 1 : Nat) : Int) = m1 := by have := HM1.out; have := HmK.out; omega
            unfold Hid
            rw [e1, ← HA1.out]
            exact this
          case measure => simp [intOf]; omega
    · obtain rfl : k = N := by omega
      have hlt2 : ¬ (k : Int) < (k : Int) := by omega
      have hkk : K = k := by omega
      go_wp2_with fail
      go_end0
      exact POST.out _ _ (by rw [hkk]; exact hdc.out) (by rw [hkk]; exact row_lift hown.out (show gd + 1 ≤ M by rw [HM.out]; exact HSZ.out.2.2.2)) hBW.out
end Go.Proofs.YtmhjimcdiglpcaaGreatDoor.Dr
/- A draw: the pieces of the units that are not certain. -/
namespace Go.Proofs.YtmhjimcdiglpcaaGreatDoor.Dr
open Go.RowKit Go.Sort C6

theorem Contains_d (ao : Option Addr) (cap : Nat) (k : List Int) (x : Int) (w : World) (h : RdZ w ao cap k) :
    Calls Tryz.prog 73 #[.slice ao k.length cap, .int .i64 x] w fun e w' => e = .returned (.bool (k.contains x)) ∧ w' = w := by
  by_cases h0 : k = []
  · subst h0
    exact Tryz.slices_Contains_int_empty ao cap x w
  · obtain ⟨b, o, rfl, _⟩ := RdV.atZ h (i := 0) (List.length_pos_iff.2 h0)
    have := Tryz.slices_Contains_int b o k.length cap k x w (Nat.le_refl _) (by have h1 := h.1; have h2 := h.2.1; rw [intz_length] at h1; omega) (fun j hj => by
      obtain ⟨b', o', e, hc⟩ := RdV.atZ h hj
      cases e
      exact hc)
    rw [List.take_length] at this
    exact this
theorem iz_contains (C : List Nat) (i : Nat) : (iz C).contains (i : Int) = decide (i ∈ C) := by
  induction C with
  | nil => simp [iz]
  | cons a l ih =>
    have e : iz (a :: l) = (a : Int) :: iz l := rfl
    have h2 : ((i : Int) == (a : Int)) = decide (i = a) := by
      by_cases h : i = a
      · subst h; simp
      · rw [decide_eq_false h]; exact beq_eq_false_iff_ne.2 (by omega)
    rw [e, List.contains_cons, ih, h2]
    simp only [List.mem_cons, Bool.decide_or]

abbrev Pc := Nat × Int × Int
def pcv (l : List Pc) : List Value := l.flatMap fun p => [.int .i64 (p.1 : Int), .int .i64 p.2.1, .int .i64 p.2.2]
theorem pcv_snoc (l : List Pc) (i : Nat) (a b : Int) : pcv (l ++ [(i, a, b)]) = pcv l ++ [.int .i64 (i : Int), .int .i64 a, .int .i64 b] := by simp [pcv]
theorem pcv_len (l : List Pc) : (pcv l).length = l.length * 3 := by
  induction l with
  | nil => rfl
  | cons p l ih =>
    have : pcv (p :: l) = [.int .i64 (p.1 : Int), .int .i64 p.2.1, .int .i64 p.2.2] ++ pcv l := rfl
    rw [this, List.length_append, ih]
    simp; omega
/-- the pieces of the first i units, and where the line ends -/
def lays (x : Nat → Int) (C : List Nat) (m : Int) : Nat → List Pc × Int
  | 0 => ([], 0)
  | i + 1 => if i ∈ C then lays x C m i else ((lays x C m i).1 ++ [(i, (lays x C m i).2, (lays x C m i).2 + x i * m)], (lays x C m i).2 + x i * m)
theorem lays_in {x : Nat → Int} {C : List Nat} {m : Int} {i : Nat} (h : i ∈ C) : lays x C m (i + 1) = lays x C m i := by
  rw [lays, if_pos h]
theorem lays_out {x : Nat → Int} {C : List Nat} {m : Int} {i : Nat} (h : ¬ i ∈ C) : lays x C m (i + 1) = ((lays x C m i).1 ++ [(i, (lays x C m i).2, (lays x C m i).2 + x i * m)], (lays x C m i).2 + x i * m) := by
  rw [lays, if_neg h]
theorem lays_bd {x : Nat → Int} {C : List Nat} {m : Int} (hm : 0 ≤ m ∧ m ≤ 19) {N : Nat} (hx : ∀ i, i < N → 1 ≤ x i ∧ x i ≤ 1099511627776) : ∀ i, i ≤ N → 0 ≤ (lays x C m i).2 ∧ (lays x C m i).2 ≤ (i : Int) * 20890720927744 ∧ (lays x C m i).1.length ≤ i := by
  intro i
  induction i with
  | zero => intro _; simp [lays]
  | succ i ih =>
    intro hi
    have h := ih (by omega)
    by_cases hc : i ∈ C
    · rw [lays_in hc]; omega
    · rw [lays_out hc]
      have hxi := hx i (by omega)
      have h1 : 0 ≤ x i * m := Int.mul_nonneg (by omega) hm.1
      have h2 : x i * m ≤ 1099511627776 * 19 := Int.mul_le_mul hxi.2 hm.2 hm.1 (by omega)
      simp only [List.length_append, List.length_singleton]
      omega
theorem infoPiece : (Tryz.prog.info? 55).map (fun i => (i.zero, i.size, i.bytes)) = some (some (.agg #[.int .i64 0, .int .i64 0, .int .i64 0]), 3, 24) := by kernel_rfl
def LOPost (x : Nat → Int) (C : List Nat) (m iv : Int) (N gd : Nat) (c : Value) (w : World) (e : Ending) (w' : World) : Prop := ∃ pv, e = .returned (.tuple #[]) ∧ Dc w' gd c pv m iv ∧ w'.ownsRow w.heap.size 55 3 pv (lays x C m N).1.length (pcv (lays x C m N).1) ∧ w.grownBy w' (some gd)

set_option maxHeartbeats 16000000 in
set_option maxRecDepth 100000 in
theorem layOut_v (xs : List Int) (C : List Nat) (m iv : Int) (ao ca : Option Addr) (cap cc gd : Nat) (w : World) (hv : szs xs = true) (h19 : xs.length ≤ 19) (hm : 0 ≤ m ∧ m ≤ 19) (hr : RdZ w ao cap xs) (hrg : 0 < (intz xs).length → ∀ b o, ao = some ⟨b, o, none⟩ → b ≠ gd)
    (hd : Dc w gd (.slice ca C.length cc) (.slice none 0 0) m iv) (hc : RdZ w ca cc (iz C)) (hcg : 0 < (intz (iz C)).length → ∀ b o, ca = some ⟨b, o, none⟩ → b ≠ gd) :
    Calls Tryz.prog 42 #[.pointer (some ⟨gd, 0, none⟩), .slice ao xs.length cap] w (LOPost (fun i => xs.getD i 0) C m iv xs.length gd (.slice ca C.length cc) w) := by
  obtain ⟨i0, hi, hz0, hz1, hz2⟩ := info_partsr infoPiece
  have hx : ∀ i, i < xs.length → 1 ≤ xs.getD i 0 ∧ xs.getD i 0 ≤ 1099511627776 := fun i hi => szs_at hv hi
  obtain ⟨x, hxx⟩ : ∃ x : Nat → Int, x = fun i => xs.getD i 0 := ⟨_, rfl⟩
  have HXB : Hid (∀ i, i < xs.length → 1 ≤ x i ∧ x i ≤ 1099511627776) := by rw [hxx]; exact hx
  have HX : Hid (∀ i, x i = xs.getD i 0) := fun i => by rw [hxx]
  obtain ⟨N, hN⟩ : ∃ N, N = xs.length := ⟨_, rfl⟩
  have hl1 : xs.length ≤ cap := by have := hr.1; rwa [intz_length] at this
  have hl2 := hr.2.1
  unfold Hid at HXB
  rw [← hN] at hl1 h19 HXB
  have HXB : Hid (∀ i, i < N → 1 ≤ x i ∧ x i ≤ 1099511627776) := HXB
  rw [← hxx, ← hN]
  obtain ⟨nc, hnc⟩ : ∃ n, n = C.length := ⟨_, rfl⟩
  rw [← hnc] at hd ⊢
  have HNC := Lib.hid hnc
  have HR := Lib.hid hr
  have HC := Lib.hid hc
  have HD := Lib.hid hd
  have HN := Lib.hid hN
  have HM := Lib.hid hm
  have HRG : Hid (0 < (intz xs).length → ∀ b o, ao = some ⟨b, o, none⟩ → b ≠ gd) := hrg
  have HCG : Hid (0 < (intz (iz C)).length → ∀ b o, ca = some ⟨b, o, none⟩ → b ≠ gd) := hcg
  have hgd := hd.lt
  obtain ⟨M, hM⟩ : ∃ M, M = w.heap.size := ⟨_, rfl⟩
  have hgM : gd < M := by rw [hM]; exact hgd
  have HMM := Lib.hid hM
  have POST : Hid (∀ w' pv, Dc w' gd (.slice ca nc cc) pv m iv → w'.ownsRow M 55 3 pv (lays x C m N).1.length (pcv (lays x C m N).1) → w.grownBy w' (some gd) → LOPost x C m iv N gd (.slice ca nc cc) w (.returned (.tuple #[])) w') := fun w' pv h1 h2 h3 => ⟨pv, rfl, h1, by rw [← hM]; exact h2, h3⟩
  clear hv hx hxx hN hr hc hd hm hrg hcg hM hnc hgd
  go_enter Tryz.func42, Tryz.ntmps42
  go_wp2_with fail
  go_loopw [10, 4] (fun s10 s4 wr => ∃ (i : Nat) (pv : Value), i ≤ N ∧ s10 = .int .i64 (i : Int) ∧ s4 = .int .i64 (lays x C m i).2 ∧ Hid (Dc wr gd (.slice ca nc cc) pv m iv) ∧ Hid (wr.ownsRow M 55 3 pv (lays x C m i).1.length (pcv (lays x C m i).1)) ∧ Hid (w.grownBy wr (some gd))) (fun s10 _ _ => N - (intOf s10).toNat)
  case atStart => exact ⟨0, .slice none 0 0, by omega, rfl, rfl, HD.out, (show World.ownsRow _ M _ 3 _ 0 (pcv []) from World.ownsRow_nil _ _ _ _), World.grownBy.refl _ _⟩
  case round =>
    obtain ⟨i, pv, hiN, rfl, rfl, hdc, hown, hgb⟩ := hrel
    by_cases hlt : i < N
    · have hlt2 : (i : Int) < (N : Int) := by omega
      have hMw : M ≤ wr.heap.size := by rw [HMM.out]; exact hgb.out.size
      have HRw := rdv_gb HR.out (fun h b f e => HRG.out h b f e) hgb.out
      obtain ⟨b, f0, rfl, kx⟩ := RdV.atZ HRw (show i < xs.length by rw [← HN.out]; exact hlt)
      obtain ⟨X, hX⟩ : ∃ X, X = x i := ⟨_, rfl⟩
      have hXb : 1 ≤ X ∧ X ≤ 1099511627776 := by rw [hX]; exact HXB.out i hlt
      rw [← HX.out i, ← hX] at kx
      have CT := Lib.hid (Contains_d ca cc (iz C) (i : Int) wr (rdv_gb HC.out (fun h b f e => HCG.out h b f e) hgb.out))
      unfold Hid at CT
      rw [iz_len, ← HNC.out, iz_contains] at CT
      obtain ⟨q0, q1, q2, q3, z0, z1, z2, z3⟩ := hdc.out.cells
      obtain ⟨L, hL⟩ : ∃ L, L = (lays x C m i).2 := ⟨_, rfl⟩
      obtain ⟨l, hl⟩ : ∃ l, l = (lays x C m i).1 := ⟨_, rfl⟩
      have hLb := lays_bd (x := x) (C := C) HM.out HXB.out i (by omega)
      rw [← hL, ← hl] at hLb
      by_cases hm : i ∈ C
      · rw [decide_eq_true hm] at CT
        have CT := Lib.hid CT
        have hs := lays_in (x := x) (m := m) hm
        have HS : Hid (Dc wr gd (.slice ca nc cc) pv m iv ∧ wr.ownsRow M 55 3 pv (lays x C m (i + 1)).1.length (pcv (lays x C m (i + 1)).1)) := by unfold Hid; rw [hs]; exact ⟨hdc.out, hown.out⟩
        have HS2 : Hid ((lays x C m (i + 1)).2 = L) := by unfold Hid; rw [hs]; exact hL.symm
        rw [← hL]
        clear hs hX hL hl HRw hown hdc hm
        go_wp2_with fail
        refine CT.out.mono ?_; rintro e w2 ⟨rfl, rfl⟩
        go_wp2_with fail
        go_roundw
        case rel => exact ⟨i + 1, pv, by omega, by go_num, by rw [HS2.out], HS.out.1, HS.out.2, hgb⟩
        case measure => simp [intOf]; omega
      · rw [decide_eq_false hm] at CT
        have CT := Lib.hid CT
        have hs := lays_out (x := x) (m := m) hm
        obtain ⟨P, hP⟩ : ∃ P, P = X * m := ⟨_, rfl⟩
        obtain ⟨L1, hL1⟩ : ∃ L1, L1 = L + P := ⟨_, rfl⟩
        have hPb : 0 ≤ P ∧ P ≤ 1099511627776 * 19 := by
          rw [hP]
          exact ⟨Int.mul_nonneg (by omega) HM.out.1, Int.mul_le_mul hXb.2 HM.out.2 HM.out.1 (by omega)⟩
        have hs' : Hid ((lays x C m (i + 1)).2 = L1 ∧ (lays x C m (i + 1)).1 = l ++ [(i, L, L1)]) := by
          unfold Hid
          rw [hs, ← hL, ← hl, ← hX, ← hP, ← hL1]
          exact ⟨rfl, rfl⟩
        have hown' : Hid (wr.ownsRow M 55 3 pv l.length (pcv l)) := by rw [hl]; exact hown.out
        obtain ⟨nl, hnl⟩ : ∃ n, n = l.length := ⟨_, rfl⟩
        have HNL := Lib.hid hnl
        unfold Hid at hown'
        rw [← hnl] at hown' hLb
        have hown' := Lib.hid hown'
        have hPP : X * m = P := hP.symm
        have hPw : IntKind.i64.wrap P = P := IntWalk.i64_in _ (by omega)
        have hLL : L + P = L1 := hL1.symm
        have hL1b : 0 ≤ L1 ∧ L1 ≤ 9223372036854775807 := by omega
        have hLw : IntKind.i64.wrap L1 = L1 := IntWalk.i64_in _ (by omega)
        rw [← hL]
        clear hs hX hL hl hP hL1 HRw hown hm hnl
        go_wp2_with fail
        refine CT.out.mono ?_; rintro e w2 ⟨rfl, rfl⟩
        go_wp2_with (at_builtin; refine wpList_append_own _ rfl _ _ 48 rfl M 55 i0 (.agg #[.int .i64 0, .int .i64 0, .int .i64 0]) 3 24 Tryz.underlying48 hi hz0 hz1 hz2 rfl (by omega) _ _ _ rfl (hown'.out.alloc _) ⟨w2.heap.size, 0, none⟩ 1 1 [.int .i64 (i : Int), .int .i64 L, .int .i64 L1] rfl rfl (three_cell _ _ _ _ _) (by intro u hu; simp at hu; rcases hu with rfl | rfl | rfl <;> rfl) (by unfold maxLen; omega) (by omega) (by simp; omega) ?_; intro v8 w8 hown8 hgr8 _; obtain ⟨a8, c8, rfl⟩ := row_n hown8; have HO8 := Lib.hid hown8; have D8 := Lib.hid ((hdc.out.gb (World.grownBy_alloc w2 (.cells #[.int .i64 (i : Int), .int .i64 L, .int .i64 L1] 55) none) (by simp)).gb hgr8 (fun q => by have := (hown'.out.lt _ q.symm).1; omega)); have VG8 := Lib.hid (gbRow (gb_trans hgb.out (World.grownBy_alloc w2 (.cells #[.int .i64 (i : Int), .int .i64 L, .int .i64 L1] 55) (some gd))) (hown'.out.alloc _) (by rw [HMM.out]; exact Nat.le_refl _) hgr8); obtain ⟨p0, p1, p2, p3, y0, y1, y2, y3⟩ := D8.out.cells; clear hown8 hgr8 q0 q1 q2 q3 z0 z1 z2 z3)
        go_roundw
        case rel =>
          refine ⟨i + 1, .slice a8 (nl + 1) c8, by omega, by go_num, by rw [hs'.out.1], D8.out.set1 _, ?_, gb_trans VG8.out (gbs _ _ _ _)⟩
          unfold Hid
          rw [hs'.out.2, List.length_append, List.length_singleton, ← HNL.out, pcv_snoc]
          exact HO8.out.kept (gbs _ _ _ _) (C6.row_block HO8.out hgM)
        case measure => simp [intOf]; omega
    · obtain rfl : i = N := by omega
      have hlt2 : ¬ (i : Int) < (i : Int) := by omega
      go_wp2_with fail
      go_end0
      exact POST.out _ pv hdc.out hown.out hgb.out
end Go.Proofs.YtmhjimcdiglpcaaGreatDoor.Dr
/- A draw of sizes and a number: newDraw. -/
namespace Go.Proofs.YtmhjimcdiglpcaaGreatDoor.Dr
open Go.RowKit Go.Sort C6

/-- the slice reads pieces -/
def RdP (w : World) (ao : Option Addr) (cap : Nat) (l : List Pc) : Prop :=
  l.length ≤ cap ∧ cap ≤ 9223372036854775807 ∧ ((l = [] ∧ (ao = none → cap = 0)) ∨ ∃ b o, ao = some ⟨b, o, none⟩ ∧ ∀ j v, (pcv l)[j]? = some v → w.cell? ⟨b, o + j, none⟩ = some v)
theorem RdP.of_row {w : World} {base : Nat} {a : Option Addr} {n c : Nat} {l : List Pc} (hn : l.length = n) (h : w.ownsRow base 55 3 (.slice a n c) n (pcv l)) : RdP w a c l := by
  rcases h.2 with ⟨e, h0⟩ | ⟨g, cap, cur, e, _, hg, h1, h2, hs, ht⟩
  · cases e
    exact ⟨by omega, by omega, .inl ⟨List.eq_nil_of_length_eq_zero (by omega), fun _ => rfl⟩⟩
  · cases e
    refine ⟨by omega, by unfold maxLen at h2; omega, .inr ⟨g, 0, rfl, fun j v hj => ?_⟩⟩
    have hjl := (List.getElem?_eq_some_iff.1 hj).1
    rw [pcv_len] at hjl
    rw [Nat.zero_add]
    exact (h.cellAt j (by omega)).trans hj
theorem RdP.gb {w w' : World} {g : Nat} {ao : Option Addr} {cap : Nat} {l : List Pc} (h : RdP w ao cap l) (hb : 0 < l.length → ∀ b o, ao = some ⟨b, o, none⟩ → b ≠ g) (k : w.grownBy w' (some g)) : RdP w' ao cap l := by
  refine ⟨h.1, h.2.1, ?_⟩
  rcases h.2.2 with hn | ⟨bk, o, e, hc⟩
  · exact .inl hn
  · refine .inr ⟨bk, o, e, fun i v hi => ?_⟩
    have hl : 0 < l.length := by have := (List.getElem?_eq_some_iff.1 hi).1; rw [pcv_len] at this; omega
    have h1 := hc i v hi
    have hlt := World.block_lt_of_cell? _ _ h1
    exact (World.cell?_of_block (a := ⟨bk, o + i, none⟩) (k.block bk hlt (fun q => hb hl bk o e (Option.some.inj q)))).trans h1
theorem RdP.below {w w' : World} {ao : Option Addr} {cap : Nat} {l : List Pc} (h : RdP w ao cap l) (b : Below w.heap.size w w') : RdP w' ao cap l := by
  refine ⟨h.1, h.2.1, ?_⟩
  rcases h.2.2 with hn | ⟨bk, o, e, hc⟩
  · exact .inl hn
  · exact .inr ⟨bk, o, e, fun i v hi => (b.cell (World.block_lt_of_cell? _ _ (hc i v hi))).trans (hc i v hi)⟩
/-- the three cells of a piece -/
theorem RdP.at {w : World} {ao : Option Addr} {cap : Nat} {l : List Pc} (h : RdP w ao cap l) {i : Nat} (hi : i < l.length) : ∃ b o, ao = some ⟨b, o, none⟩ ∧ w.cell? ⟨b, o + i * 3, none⟩ = some (.int .i64 ((l[i]).1 : Int)) ∧ w.cell? ⟨b, o + i * 3 + 1, none⟩ = some (.int .i64 (l[i]).2.1) ∧ w.cell? ⟨b, o + i * 3 + 2, none⟩ = some (.int .i64 (l[i]).2.2) := by
  rcases h.2.2 with ⟨e, _⟩ | ⟨b, o, e, hc⟩
  · rw [e] at hi; simp at hi
  · have key : ∀ (l : List Pc) (i : Nat) (hi : i < l.length), (pcv l)[i * 3]? = some (.int .i64 ((l[i]).1 : Int)) ∧ (pcv l)[i * 3 + 1]? = some (.int .i64 (l[i]).2.1) ∧ (pcv l)[i * 3 + 2]? = some (.int .i64 (l[i]).2.2) := by
      intro l
      induction l with
      | nil => intro i hi; simp at hi
      | cons p l ih =>
        intro i hi
        have e : pcv (p :: l) = [.int .i64 (p.1 : Int), .int .i64 p.2.1, .int .i64 p.2.2] ++ pcv l := rfl
        cases i with
        | zero => exact ⟨rfl, rfl, rfl⟩
        | succ i =>
          have := ih i (by simpa using hi)
          rw [e, show (i + 1) * 3 = i * 3 + 3 by omega, show i * 3 + 3 + 1 = i * 3 + 1 + 3 by omega, show i * 3 + 3 + 2 = i * 3 + 2 + 3 by omega]
          simpa using this
    obtain ⟨k0, k1, k2⟩ := key l i hi
    refine ⟨b, o, e, hc _ _ k0, ?_, ?_⟩
    · rw [Nat.add_assoc]; exact hc _ _ k1
    · rw [Nat.add_assoc]; exact hc _ _ k2

/-- the error of sizes and a number -/
def drE (xs : List Int) (n : Int) : Int := if szs xs = false then 100 else if n < 1 ∨ (xs.length : Int) < n then 102 else 0
def fx (xs : List Int) (i : Nat) : Int := xs.getD i 0
/-- what newDraw gives -/
def NDPost (xs : List Int) (n : Int) (w : World) (e : Ending) (w' : World) : Prop := Below w.heap.size w w' ∧
  ((drE xs n ≠ 0 ∧ e = .returned (.tuple #[.agg #[.slice none 0 0, .slice none 0 0, .int .i64 0, .int .i64 0], .int .i64 (drE xs n)])) ∨
   (drE xs n = 0 ∧ ∃ (m : Nat) (od : List Nat) (K : Nat) (ca pa : Option Addr) (cc pc : Nat), n = (m : Int) ∧ 1 ≤ m ∧ m ≤ xs.length ∧ szs xs = true ∧ Ord xs.length (fx xs) od ∧ Cert xs.length (fx xs) od m K ∧
    e = .returned (.tuple #[.agg #[.slice ca K cc, .slice pa (lays (fx xs) (od.take K) ((m : Int) - (K : Int)) xs.length).1.length pc, .int .i64 ((m : Int) - (K : Int)), .int .i64 (T (fx xs) od K)], .int .i64 0]) ∧
    RdZ w' ca cc (iz (od.take K)) ∧ RdP w' pa pc (lays (fx xs) (od.take K) ((m : Int) - (K : Int)) xs.length).1))
theorem range_sum (x : Nat → Int) (i : Nat) : ((List.range (i + 1)).map x).sum = ((List.range i).map x).sum + x i := by
  rw [List.range_succ, List.map_append, List.sum_append]
  simp
theorem sum_bd {x : Nat → Int} {N : Nat} (hx : ∀ i, i < N → 1 ≤ x i ∧ x i ≤ 1099511627776) : ∀ i, i ≤ N → 0 ≤ ((List.range i).map x).sum ∧ ((List.range i).map x).sum ≤ (i : Int) * 1099511627776 := by
  intro i
  induction i with
  | zero => intro _; simp
  | succ i ih =>
    intro hi
    have := ih (by omega)
    have := hx i (by omega)
    rw [range_sum]
    omega
theorem cells4d (w : World) (c p : Value) (m i : Int) : Dc (w.alloc (.cells #[c, p, .int .i64 m, .int .i64 i] 50)) w.heap.size c p m i := by
  unfold Dc World.alloc
  simp

set_option maxHeartbeats 16000000 in
set_option maxRecDepth 100000 in
theorem newDraw_v (xs : List Int) (n : Int) (ao : Option Addr) (cap : Nat) (w : World) (h19 : xs.length ≤ 19) (hr : RdZ w ao cap xs) :
    Calls Tryz.prog 18 #[.slice ao xs.length cap, .int .i64 n] w (NDPost xs n w) := by
  obtain ⟨W1, hW1⟩ : ∃ W, W = w.alloc (.cells #[.slice none 0 0, .slice none 0 0, .int .i64 0, .int .i64 0] 50) := ⟨_, rfl⟩
  obtain ⟨g, hg⟩ : ∃ g, g = w.heap.size := ⟨_, rfl⟩
  have b1 : Below w.heap.size w W1 := by rw [hW1]; exact below_new _ _
  have d1 : Dc W1 g (.slice none 0 0) (.slice none 0 0) 0 0 := by rw [hW1, hg]; exact cells4d _ _ _ _ _
  have s1 : W1.heap.size = g + 1 := by rw [hW1, hg]; exact World.size_alloc _ _
  have r1 : RdZ W1 ao cap xs := hr.below b1
  have AS := Lib.hid (areSizes_v xs ao cap W1 h19 r1)
  have HD1 := Lib.hid d1
  have HB1 := Lib.hid b1
  obtain ⟨N, hN⟩ : ∃ N, N = xs.length := ⟨_, rfl⟩
  have hl1 : N ≤ cap := by have := hr.1; rw [intz_length, ← hN] at this; exact this
  have hl2 := hr.2.1
  unfold Hid at AS
  rw [← hN] at AS h19 ⊢
  have AS := Lib.hid AS
  have HG := Lib.hid hg
  obtain ⟨q0, q1, q2, q3, z0, z1, z2, z3⟩ := d1.cells
  by_cases hs : szs xs = false
  · have hE : drE xs n = 100 := by unfold drE; rw [if_pos hs]
    have fin : Hid (∀ w', Below w.heap.size w w' → NDPost xs n w (.returned (.tuple #[.agg #[.slice none 0 0, .slice none 0 0, .int .i64 0, .int .i64 0], .int .i64 100])) w') := fun w' hb => ⟨hb, .inl ⟨by rw [hE]; decide, by rw [hE]⟩⟩
    unfold Hid at AS
    rw [hs] at AS
    have AS := Lib.hid AS
    clear hE hs b1 d1 r1 hr hN
    subst hg
    go_enter Tryz.func18, Tryz.ntmps18
    go_wp2_with fail
    rw [← hW1]
    clear hW1
    refine AS.out.mono ?_; rintro e w2 ⟨rfl, rfl⟩
    go_wp2_with fail
    refine bodyPost_ret (v := .tuple #[.agg #[.slice none 0 0, .slice none 0 0, .int .i64 0, .int .i64 0], .int .i64 100]) (by simp [results, Tryz.results18, go_sem, q0, q1, q2, q3]) rfl ?_
    exact fin.out _ (by first | exact HB1.out | exact (((HB1.out.setCell (Nat.le_refl _) _).setCell (Nat.le_refl _) _).setCell (Nat.le_refl _) _).setCell (Nat.le_refl _) _)
  · have hs1 : szs xs = true := by cases h : szs xs <;> simp_all
    unfold Hid at AS
    rw [hs1] at AS
    have AS := Lib.hid AS
    by_cases hnb : n < 1 ∨ (xs.length : Int) < n
    · have hE : drE xs n = 102 := by unfold drE; rw [if_neg hs, if_pos hnb]
      have fin : Hid (∀ w', Below w.heap.size w w' → NDPost xs n w (.returned (.tuple #[.agg #[.slice none 0 0, .slice none 0 0, .int .i64 0, .int .i64 0], .int .i64 102])) w') := fun w' hb => ⟨hb, .inl ⟨by rw [hE]; decide, by rw [hE]⟩⟩
      rw [← hN] at hnb
      clear hE hs hs1 b1 d1 r1 hr hN
      subst hg
      by_cases hn1 : n < 1
      · clear hnb
        go_enter Tryz.func18, Tryz.ntmps18
        go_wp2_with fail
        rw [← hW1]
        clear hW1
        refine AS.out.mono ?_; rintro e w2 ⟨rfl, rfl⟩
        go_wp2_with fail
        refine bodyPost_ret (v := .tuple #[.agg #[.slice none 0 0, .slice none 0 0, .int .i64 0, .int .i64 0], .int .i64 102]) (by simp [results, Tryz.results18, go_sem, q0, q1, q2, q3]) rfl ?_
        exact fin.out _ (by first | exact HB1.out | exact (((HB1.out.setCell (Nat.le_refl _) _).setCell (Nat.le_refl _) _).setCell (Nat.le_refl _) _).setCell (Nat.le_refl _) _)
      · have hn2 : (N : Int) < n := by omega
        have hn1' : decide (n < 1) = false := decide_eq_false hn1
        clear hnb
        go_enter Tryz.func18, Tryz.ntmps18
        go_wp2_with fail
        rw [← hW1]
        clear hW1
        refine AS.out.mono ?_; rintro e w2 ⟨rfl, rfl⟩
        go_wp2_with fail
        refine bodyPost_ret (v := .tuple #[.agg #[.slice none 0 0, .slice none 0 0, .int .i64 0, .int .i64 0], .int .i64 102]) (by simp [results, Tryz.results18, go_sem, q0, q1, q2, q3]) rfl ?_
        exact fin.out _ (by first | exact HB1.out | exact (((HB1.out.setCell (Nat.le_refl _) _).setCell (Nat.le_refl _) _).setCell (Nat.le_refl _) _).setCell (Nat.le_refl _) _)
    · have hE : Hid (drE xs n = 0) := by unfold Hid drE; rw [if_neg hs, if_neg hnb]
      obtain ⟨m, rfl⟩ : ∃ m : Nat, n = (m : Int) := ⟨n.toNat, by omega⟩
      rw [← hN] at hnb
      have hm1 : 1 ≤ m := by omega
      have hmN : m ≤ N := by omega
      have hn1' : decide ((m : Int) < 1) = false := decide_eq_false (by omega)
      have hn2' : decide ((N : Int) < (m : Int)) = false := decide_eq_false (by omega)
      obtain ⟨W2, hW2⟩ : ∃ W, W = W1.alloc (.cells #[.slice none 0 0, .slice none 0 0, .int .i64 (m : Int), .int .i64 0] 50) := ⟨_, rfl⟩
      obtain ⟨gd, hgd⟩ : ∃ g, g = w.heap.size + 1 := ⟨_, rfl⟩
      have b2 : Below W1.heap.size W1 W2 := by rw [hW2]; exact below_new _ _
      have d2 : Dc W2 gd (.slice none 0 0) (.slice none 0 0) (m : Int) 0 := by rw [hW2, hgd, ← hg, ← s1]; exact cells4d _ _ _ _ _
      have s2 : W2.heap.size = gd + 1 := by rw [hW2, World.size_alloc, s1, hgd, ← hg]
      have HR2 : Hid (RdZ W2 ao cap xs) := r1.below b2
      have HD2 := Lib.hid d2
      have HG2 : Hid (Dc W2 g (.slice none 0 0) (.slice none 0 0) 0 0) := (b2.block g d1.lt).trans d1
      have HB2 : Hid (Below w.heap.size w W2) := b1.trans (b2.mono b1.size)
      have HS2 := Lib.hid s2
      have hRG : Hid (0 < (intz xs).length → ∀ b o, ao = some ⟨b, o, none⟩ → b < g) := fun h b o e => by rw [hg]; exact hr.lt h b o e
      have hggd : Hid (gd = g + 1) := by unfold Hid; rw [hgd, hg]
      have HNN := Lib.hid hN
      have hx : Hid (∀ i, i < N → 1 ≤ fx xs i ∧ fx xs i ≤ 1099511627776) := fun i hi => szs_at hs1 (by rw [← hN]; exact hi)
      have HSZ := Lib.hid hs1
      clear hs hs1 hnb b1 d1 r1 hr b2 d2 s2 s1 hN HB1 HD1
      go_enter Tryz.func18, Tryz.ntmps18
      go_wp2_with fail
      rw [← hW1]
      refine AS.out.mono ?_; rintro e w2 ⟨rfl, rfl⟩
      go_upto_region 6 with fail
      try rw [← hW1]
      rw [← hgd, ← hW2]
      try rw [← hg]
      clear hW1 hW2 hg hgd q0 q1 q2 q3 z0 z1 z2 z3 AS
      go_wp2_with fail
      go_loopw [28] (fun s28 wr => ∃ i : Nat, i ≤ N ∧ s28 = .int .i64 (i : Int) ∧ Hid (Dc wr gd (.slice none 0 0) (.slice none 0 0) (m : Int) (((List.range i).map (fx xs)).sum)) ∧ Hid (W2.grownBy wr (some gd))) (fun s28 _ => N - (intOf s28).toNat)
      case atStart => exact ⟨0, by omega, rfl, (by unfold Hid; simpa using HD2.out), World.grownBy.refl _ _⟩
      case round =>
        obtain ⟨i, hiN, rfl, hdc, hgb⟩ := hrel
        have HRw := rdv_gb HR2.out (fun h b f e => by have := hRG.out h b f e; have := hggd.out; omega) hgb.out
        by_cases hlt : i < N
        · have hlt2 : (i : Int) < (N : Int) := by omega
          obtain ⟨b, f0, rfl, kx⟩ := RdV.atZ HRw (show i < xs.length by rw [← HNN.out]; exact hlt)
          obtain ⟨X, hX⟩ : ∃ X, X = xs.getD i 0 := ⟨_, rfl⟩
          obtain ⟨S, hS⟩ : ∃ S, S = ((List.range i).map (fx xs)).sum := ⟨_, rfl⟩
          obtain ⟨S1, hS1⟩ : ∃ S, S = ((List.range (i + 1)).map (fx xs)).sum := ⟨_, rfl⟩
          have hSS : S + X = S1 := by rw [hS, hS1, hX, range_sum]; rfl
          have hSb := sum_bd hx.out (i + 1) (by omega)
          rw [← hS1] at hSb
          have hS1w : IntKind.i64.wrap S1 = S1 := IntWalk.i64_in _ (by omega)
          rw [← hX] at kx
          rw [← hS] at hdc
          obtain ⟨q0, q1, q2, q3, z0, z1, z2, z3⟩ := hdc.out.cells
          have HS1 := Lib.hid hS1
          clear hX hS hS1 HRw
          go_wp2_with fail
          go_roundw
          case rel => exact ⟨i + 1, by omega, by go_num, by rw [← HS1.out]; exact hdc.out.set3 S1, gb_trans hgb.out (gbs _ _ _ _)⟩
          case measure => simp [intOf]; omega
        · obtain rfl : i = N := by omega
          have hlt2 : ¬ (i : Int) < (i : Int) := by omega
          have hd := hdc.out
          rw [show ((List.range i).map (fx xs)).sum = ((List.range xs.length).map (fun i => xs.getD i 0)).sum by rw [← HNN.out]; rfl] at hd
          have SC := Lib.hid (setCertain_v xs m ao cap gd (.slice none 0 0) wr HSZ.out (by rw [← HNN.out]; exact h19) (by rw [← HNN.out]; exact hmN) HRw (fun h b f e => by have := hRG.out h b f e; have := hggd.out; omega) hd)
          unfold Hid at SC
          rw [← HNN.out] at SC
          have SC := Lib.hid SC
          have HRW := Lib.hid HRw
          have HGW : Hid (Dc wr g (.slice none 0 0) (.slice none 0 0) 0 0) := HG2.out.gb hgb.out (by have := hggd.out; simp; omega)
          have HBW : Hid (Below w.heap.size w wr) := HB2.out.trans (row_gb hgb.out HB2.out.size (fun j e => by cases e; have := hggd.out; have := HG.out; omega))
          clear hd HRw
          go_wp2_with fail
          refine SC.out.mono ?_; rintro e w3 ⟨od, K, c, rfl, ho, hK, hdc3, hown3, hb3⟩
          obtain ⟨ca, cc, rfl⟩ := row_n hown3
          have hKN : K ≤ xs.length := hK.le
          have hKm := hK.K_le ho (fun i hi => szs_at HSZ.out hi)
          have hlen : (od.take K).length = K := by rw [List.length_take, ho.len]; omega
          have hz3 : RdZ w3 ca cc (iz (od.take K)) := rdz_row (by rw [iz_len, hlen]) hown3
          have hcb : ∀ b o, ca = some ⟨b, o, none⟩ → gd < b := fun b o e => by
            subst e
            have := (hown3.lt b rfl).1
            omega
          have hr3 : RdZ w3 ao cap xs := HRW.out.keep (fun h b f e => by have := hRG.out h b f e; have := hggd.out; omega) hb3
          have LO := layOut_v xs (od.take K) ((m : Int) - (K : Int)) (T (fun i => xs.getD i 0) od K) ao ca cap cc gd w3 HSZ.out (by rw [← HNN.out]; exact h19) (by omega) hr3 (fun h b f e => by have := hRG.out h b f e; have := hggd.out; omega) (by rw [hlen]; exact hdc3) hz3 (fun _ b f e => by have := hcb b f e; omega)
          rw [hlen, ← HNN.out] at LO
          have LO := Lib.hid LO
          have HO := Lib.hid ho
          have HK := Lib.hid hK
          have HZ3 := Lib.hid hz3
          have HCB : Hid (∀ b o, ca = some ⟨b, o, none⟩ → gd < b) := hcb
          have HG3 : Hid (Dc w3 g (.slice none 0 0) (.slice none 0 0) 0 0) := (hb3.block g (by have := hggd.out; omega)).trans HGW.out
          have HB3 : Hid (Below w.heap.size w w3) := HBW.out.trans (hb3.mono (by have := hggd.out; have := HG.out; omega))
          have hgd3 : Hid (gd < w3.heap.size) := hdc3.lt
          clear SC ho hK hdc3 hown3 hb3 hKN hKm hlen hz3 hcb hr3
          go_wp2_with fail
          refine LO.out.mono ?_; rintro e w4 ⟨pv, rfl, hdc4, hown4, hgb4⟩
          obtain ⟨pa, pc, rfl⟩ := row_n hown4
          have hp4 := RdP.of_row rfl hown4
          have hz4 := rdv_gb HZ3.out (fun _ b f e => by have := HCB.out b f e; omega) hgb4
          have hpb : ∀ b o, pa = some ⟨b, o, none⟩ → gd < b := fun b o e => by
            subst e
            have := (hown4.lt b rfl).1
            have := hgd3.out
            omega
          have hg4 : Dc w4 g (.slice none 0 0) (.slice none 0 0) 0 0 := HG3.out.gb hgb4 (by have := hggd.out; simp; omega)
          have HB4 : Hid (Below w.heap.size w w4) := HB3.out.trans (row_gb hgb4 HB3.out.size (fun j e => by cases e; have := hggd.out; have := HG.out; omega))
          obtain ⟨q0, q1, q2, q3, _, _, _, _⟩ := hdc4.cells
          obtain ⟨y0, y1, y2, y3, z0, z1, z2, z3⟩ := hg4.cells
          obtain ⟨A, hA⟩ : ∃ A, A = T (fun i => xs.getD i 0) od K := ⟨_, rfl⟩
          obtain ⟨M, hM⟩ : ∃ M : Int, M = (m : Int) - (K : Int) := ⟨_, rfl⟩
          obtain ⟨ln, hln⟩ : ∃ ln, ln = (lays (fun i => xs.getD i 0) (od.take K) ((m : Int) - (K : Int)) i).1.length := ⟨_, rfl⟩
          have fin : Hid (NDPost xs (m : Int) w (.returned (.tuple #[.agg #[.slice ca K cc, .slice pa ln pc, .int .i64 M, .int .i64 A], .int .i64 0])) ((((w4.setCell ⟨g, 0, none⟩ (.slice ca K cc)).setCell ⟨g, 1, none⟩ (.slice pa ln pc)).setCell ⟨g, 2, none⟩ (.int .i64 M)).setCell ⟨g, 3, none⟩ (.int .i64 A))) := by
            refine ⟨(((HB4.out.setCell (by rw [HG.out]; exact Nat.le_refl _) _).setCell (by rw [HG.out]; exact Nat.le_refl _) _).setCell (by rw [HG.out]; exact Nat.le_refl _) _).setCell (by rw [HG.out]; exact Nat.le_refl _) _, .inr ⟨hE.out, m, od, K, ca, pa, cc, pc, rfl, hm1, by rw [← HNN.out]; exact hmN, HSZ.out, HO.out, HK.out, ?_, ?_, ?_⟩⟩
            · rw [hln, hM, hA, HNN.out]; rfl
            · have k1 := rdv_gb hz4 (g := g) (fun _ b f e => by have := HCB.out b f e; have := hggd.out; omega) (gbs w4 g 0 (.slice ca K cc))
              have k2 := rdv_gb k1 (g := g) (fun _ b f e => by have := HCB.out b f e; have := hggd.out; omega) (gbs _ g 1 (.slice pa ln pc))
              have k3 := rdv_gb k2 (g := g) (fun _ b f e => by have := HCB.out b f e; have := hggd.out; omega) (gbs _ g 2 (.int .i64 M))
              exact rdv_gb k3 (g := g) (fun _ b f e => by have := HCB.out b f e; have := hggd.out; omega) (gbs _ g 3 (.int .i64 A))
            · rw [← HNN.out]
              have k1 := hp4.gb (g := g) (fun _ b f e => by have := hpb b f e; have := hggd.out; omega) (gbs w4 g 0 (.slice ca K cc))
              have k2 := k1.gb (g := g) (fun _ b f e => by have := hpb b f e; have := hggd.out; omega) (gbs _ g 1 (.slice pa ln pc))
              have k3 := k2.gb (g := g) (fun _ b f e => by have := hpb b f e; have := hggd.out; omega) (gbs _ g 2 (.int .i64 M))
              exact k3.gb (g := g) (fun _ b f e => by have := hpb b f e; have := hggd.out; omega) (gbs _ g 3 (.int .i64 A))
          rw [← hA] at q3
          rw [← hM] at q2
          rw [← hln] at q1
          clear LO hdc4 hown4 hgb4 hp4 hz4 hpb hg4 hA hM hln
          go_wp2_with fail
          refine bodyPost_ret (v := .tuple #[.agg #[.slice ca K cc, .slice pa ln pc, .int .i64 M, .int .i64 A], .int .i64 0]) (by simp [results, Tryz.results18, go_sem, y0, y1, y2, y3]) rfl ?_
          exact fin.out
end Go.Proofs.YtmhjimcdiglpcaaGreatDoor.Dr
