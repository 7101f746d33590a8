import Derived.Sort.Walk0
import Derived.Test.YtcnghhlchjcdhaaSmpAw
/- The library's insertion sort by a key: what it leaves, and that equal keys keep their order. -/
namespace Go.Proofs.Ytcnghhlchjcdhaa.Dr
section
variable {α : Type} [Inhabited α] (key : α → Int)
def ltk (x y : α) : Bool := decide (key x < key y)
def pos (x : α) (l : List α) : Nat → Nat
  | 0 => 0
  | k + 1 => if ltk key x (l.getD k default) = true then pos x l k else k + 1
theorem pos_le (x : α) (l : List α) : ∀ k, pos key x l k ≤ k
  | 0 => Nat.le_refl _
  | k + 1 => by
    unfold pos
    split
    · exact Nat.le_succ_of_le (pos_le x l k)
    · exact Nat.le_refl _
theorem pos_go {x : α} {l : List α} {k : Nat} (h : ltk key x (l.getD k default) = true) : pos key x l (k + 1) = pos key x l k := by
  show (if ltk key x (l.getD k default) = true then pos key x l k else k + 1) = _
  rw [if_pos h]
theorem pos_stop {x : α} {l : List α} {k : Nat} (h : ltk key x (l.getD k default) = false) : pos key x l (k + 1) = k + 1 := by
  show (if ltk key x (l.getD k default) = true then pos key x l k else k + 1) = _
  rw [h]; rfl
def insA (l : List α) (x : α) : List α := l.take (pos key x l l.length) ++ x :: l.drop (pos key x l l.length)
def isort (l : List α) : List α := l.foldl (insA key) []
theorem insA_length (l : List α) (x : α) : (insA key l x).length = l.length + 1 := by
  unfold insA
  have := pos_le key x l l.length
  simp; omega
theorem foldl_length (l : List α) : ∀ o : List α, (l.foldl (insA key) o).length = o.length + l.length := by
  induction l with
  | nil => intro o; rfl
  | cons x r ih => intro o; simp only [List.foldl_cons, ih, insA_length key, List.length_cons]; omega
theorem isort_length (l : List α) : (isort key l).length = l.length := by unfold isort; rw [foldl_length key]; simp
theorem isort_take (l : List α) (i : Nat) (h : i < l.length) : isort key (l.take (i + 1)) = insA key (isort key (l.take i)) (l.getD i default) := by
  unfold isort
  rw [List.take_add_one, List.getElem?_eq_getElem h, List.foldl_append]
  simp [List.getD, h]
theorem insA_perm (l : List α) (x : α) : (insA key l x).Perm (x :: l) := by
  unfold insA
  refine List.perm_middle.trans ?_
  rw [List.take_append_drop]
theorem foldl_perm (l : List α) : ∀ o : List α, (l.foldl (insA key) o).Perm (l ++ o) := by
  induction l with
  | nil => intro o; exact List.Perm.refl _
  | cons x r ih =>
    intro o
    simp only [List.foldl_cons]
    refine (ih _).trans ?_
    refine ((insA_perm key o x).append_left r).trans ?_
    exact List.perm_middle
theorem isort_perm (l : List α) : (isort key l).Perm l := by have := foldl_perm key l []; rwa [List.append_nil] at this
/-- the library's insertion sort, over the array -/
theorem swp_next (A B : List α) (y x : α) : Sort.swp (A ++ y :: x :: B).toArray (A.length + 1) A.length = (A ++ x :: y :: B).toArray := by
  unfold Sort.swp
  have e1 : (A ++ y :: x :: B).toArray[A.length]! = y := by simp
  have e2 : (A ++ y :: x :: B).toArray[A.length + 1]! = x := by simp
  rw [e1, e2]
  simp only [List.setIfInBounds_toArray]
  congr 1
  rw [List.set_append, if_neg (by omega), show A.length + 1 - A.length = 1 by omega]
  rw [List.set_append, if_neg (by omega), show A.length - A.length = 0 by omega]
  rfl
theorem insInner_pos (x : α) (o r : List α) : ∀ j, j ≤ o.length →
    Sort.insInner (ltk key) 0 j (o.take j ++ x :: (o.drop j ++ r)).toArray = (o.take (pos key x o j) ++ x :: (o.drop (pos key x o j) ++ r)).toArray
  | 0, _ => by simp [Sort.insInner, pos]
  | j + 1, hj => by
    have hj' : j < o.length := by omega
    have et : o.take (j + 1) = o.take j ++ [o[j]] := by rw [List.take_add_one, List.getElem?_eq_getElem hj']; rfl
    have hl : (o.take j).length = j := by rw [List.length_take]; omega
    have ed : o.drop j = o[j] :: o.drop (j + 1) := List.drop_eq_getElem_cons hj'
    have hA : (o.take (j + 1) ++ x :: (o.drop (j + 1) ++ r)) = o.take j ++ o[j] :: x :: (o.drop (j + 1) ++ r) := by rw [et, List.append_assoc]; rfl
    unfold Sort.insInner
    rw [hA]
    have q1 : (o.take j ++ o[j] :: x :: (o.drop (j + 1) ++ r)).toArray[j]! = o[j] := by
      have : (o.take j ++ o[j] :: x :: (o.drop (j + 1) ++ r))[(o.take j).length]? = some o[j] := by simp
      rw [hl] at this
      simp [this]
    have q2 : (o.take j ++ o[j] :: x :: (o.drop (j + 1) ++ r)).toArray[j + 1]! = x := by
      have : (o.take j ++ o[j] :: x :: (o.drop (j + 1) ++ r))[(o.take j).length + 1]? = some x := by simp
      rw [hl] at this
      simp [this]
    rw [q1, q2]
    have eg : o.getD j default = o[j] := by simp [List.getD, hj']
    cases h : ltk key x o[j] with
    | false =>
      rw [pos_stop key (by rw [eg]; exact h), ← hA]
      simp
    | true =>
      rw [pos_go key (by rw [eg]; exact h)]
      have sw := swp_next (o.take j) (o.drop (j + 1) ++ r) o[j] x
      rw [hl] at sw
      simp only [sw, gt_iff_lt, Nat.zero_lt_succ, decide_true, Bool.and_self, if_true]
      have := insInner_pos x o r j (by omega)
      rw [ed, List.cons_append] at this
      exact this
theorem insOuter_sort (l : List α) : ∀ m i, m = l.length - i → i ≤ l.length →
    Sort.insOuter (ltk key) 0 l.length i (isort key (l.take i) ++ l.drop i).toArray = (isort key l).toArray := by
  intro m
  induction m with
  | zero =>
    intro i hm hi
    have : i = l.length := by omega
    subst this
    unfold Sort.insOuter
    rw [if_neg (by omega), List.take_length, List.drop_length, List.append_nil]
  | succ m ih =>
    intro i hm hi
    have hi' : i < l.length := by omega
    unfold Sort.insOuter
    rw [if_pos hi']
    have hol : (isort key (l.take i)).length = i := by rw [isort_length key, List.length_take]; omega
    have h1 := insInner_pos key l[i] (isort key (l.take i)) (l.drop (i + 1)) i (by omega)
    have h2 := List.take_length (l := isort key (l.take i))
    have h3 := List.drop_length (l := isort key (l.take i))
    rw [hol] at h2 h3
    rw [h2, h3, List.nil_append] at h1
    rw [List.drop_eq_getElem_cons hi', h1]
    have h4 := isort_take key l i hi'
    unfold insA at h4
    rw [hol] at h4
    have h5 : l.getD i default = l[i] := by simp [List.getD, hi']
    rw [h5] at h4
    have := ih (i + 1) (by omega) hi'
    rw [h4] at this
    simpa using this
theorem sort_isort (l : List α) : Sort.insertionSort (ltk key) l.toArray 0 l.length = (isort key l).toArray := by
  unfold Sort.insertionSort
  cases l with
  | nil => unfold Sort.insOuter; simp [isort]
  | cons x r =>
    have := insOuter_sort key (x :: r) _ 1 rfl (by simp)
    have e : isort key ((x :: r).take 1) = [x] := by simp [isort, insA, pos]
    rw [e] at this
    simpa using this


/-- the order: by key, then by place -/
def Rk (idx : α → Nat) (x y : α) : Prop := key x < key y ∨ (key x = key y ∧ idx x < idx y)
theorem pos_left {idx : α → Nat} {x : α} {l : List α} : ∀ (k : Nat), k ≤ l.length → l.Pairwise (Rk key idx) → ∀ y ∈ l.take (pos key x l k), ¬ key x < key y
  | 0, _, _ => by intro y hy; simp [pos] at hy
  | k + 1, hk, hs => by
    cases h : ltk key x (l.getD k default) with
    | true => rw [pos_go key h]; exact pos_left k (by omega) hs
    | false =>
      rw [pos_stop key h]
      intro y hy
      have hk' : k < l.length := by omega
      have hx : ¬ key x < key l[k] := by
        have : l.getD k default = l[k] := by simp [List.getD, hk']
        rw [this] at h
        unfold ltk at h
        simpa using h
      obtain ⟨i, hi, rfl⟩ := List.mem_take_iff_getElem.1 hy
      by_cases he : i = k
      · subst he; exact hx
      · have hlt : i < k := by omega
        have := List.pairwise_iff_getElem.1 hs i k (by omega) hk' hlt
        unfold Rk at this
        omega
theorem pos_right {x : α} {l : List α} : ∀ (k : Nat), k ≤ l.length → ∀ i, pos key x l k ≤ i → i < k → ∀ h : i < l.length, key x < key l[i]
  | 0, _ => by intro i _ h2; omega
  | k + 1, hk => by
    intro i h1 h2 h3
    cases h : ltk key x (l.getD k default) with
    | true =>
      rw [pos_go key h] at h1
      by_cases he : i = k
      · subst he
        have : l.getD i default = l[i] := by simp [List.getD, h3]
        rw [this] at h
        unfold ltk at h
        simpa using h
      · exact pos_right k (by omega) i h1 (by omega) h3
    | false => rw [pos_stop key h] at h1; omega
theorem insA_srt {idx : α → Nat} {l : List α} (hs : l.Pairwise (Rk key idx)) (x : α) (hx : ∀ y ∈ l, idx y < idx x) : (insA key l x).Pairwise (Rk key idx) := by
  unfold insA
  have hp := pos_le key x l l.length
  rw [List.pairwise_append]
  refine ⟨hs.sublist (List.take_sublist _ _), ?_, ?_⟩
  · rw [List.pairwise_cons]
    refine ⟨fun y hy => ?_, hs.sublist (List.drop_sublist _ _)⟩
    obtain ⟨i, hi, rfl⟩ := List.mem_drop_iff_getElem.1 hy
    exact .inl (pos_right key (x := x) (l := l) l.length (Nat.le_refl _) (pos key x l l.length + i) (by omega) (by omega) (by omega))
  · intro a ha b hb
    rcases List.mem_cons.1 hb with rfl | hb
    · have h1 := pos_left key (idx := idx) l.length (Nat.le_refl _) hs a ha
      have h2 := hx a (List.mem_of_mem_take ha)
      unfold Rk
      omega
    · obtain ⟨i, hi, rfl⟩ := List.mem_take_iff_getElem.1 ha
      obtain ⟨j, hj, rfl⟩ := List.mem_drop_iff_getElem.1 hb
      exact List.pairwise_iff_getElem.1 hs i _ (by omega) (by omega) (by omega)
theorem foldl_srt {idx : α → Nat} (l : List α) : ∀ o : List α, o.Pairwise (Rk key idx) → l.Pairwise (fun a b => idx a < idx b) → (∀ y ∈ o, ∀ x ∈ l, idx y < idx x) → (l.foldl (insA key) o).Pairwise (Rk key idx) := by
  induction l with
  | nil => intro o h _ _; exact h
  | cons x r ih =>
    intro o h hl ho
    rw [List.pairwise_cons] at hl
    refine ih _ (insA_srt key h x (fun y hy => ho y hy x (List.mem_cons_self))) hl.2 (fun y hy z hz => ?_)
    rcases List.mem_cons.1 ((insA_perm key o x).mem_iff.1 hy) with rfl | hy
    · exact hl.1 z hz
    · exact ho y hy z (List.mem_cons_of_mem _ hz)
theorem isort_srt {idx : α → Nat} (l : List α) (hl : l.Pairwise (fun a b => idx a < idx b)) : (isort key l).Pairwise (Rk key idx) := foldl_srt key l [] List.Pairwise.nil hl (fun y hy => by simp at hy)
end
end Go.Proofs.Ytcnghhlchjcdhaa.Dr
/- The units by size, the greatest first; how many of them are certain. -/
namespace Go.Proofs.Ytcnghhlchjcdhaa.Dr

/-- a list of the N units, by size from the greatest on, equal ones by their numbers -/
structure Ord (N : Nat) (x : Nat → Int) (od : List Nat) : Prop where
  perm : od.Perm (List.range N)
  srt : od.Pairwise (fun a b => x b < x a ∨ (x a = x b ∧ a < b))
theorem Ord.len {N : Nat} {x : Nat → Int} {od : List Nat} (h : Ord N x od) : od.length = N := by rw [h.perm.length_eq, List.length_range]
theorem Ord.lt {N : Nat} {x : Nat → Int} {od : List Nat} (h : Ord N x od) {i : Nat} (hi : i ∈ od) : i < N := by simpa using h.perm.mem_iff.1 hi
theorem Ord.mem {N : Nat} {x : Nat → Int} {od : List Nat} (h : Ord N x od) {i : Nat} (hi : i < N) : i ∈ od := h.perm.mem_iff.2 (by simpa using hi)
theorem Ord.nodup {N : Nat} {x : Nat → Int} {od : List Nat} (h : Ord N x od) : od.Nodup := h.perm.nodup_iff.2 List.nodup_range
theorem Ord.get {N : Nat} {x : Nat → Int} {od : List Nat} (h : Ord N x od) {k : Nat} (hk : k < N) : od.getD k 0 < N := h.lt (by
  have : k < od.length := by rw [h.len]; exact hk
  simp [List.getD, this])
theorem drop_getD (od : List Nat) {k : Nat} (hk : k < od.length) : od.drop k = od.getD k 0 :: od.drop (k + 1) := by
  rw [List.drop_eq_getElem_cons hk]
  simp [List.getD, hk]
theorem take_getD (od : List Nat) {k : Nat} (hk : k < od.length) : od.take (k + 1) = od.take k ++ [od.getD k 0] := by
  rw [List.take_add_one, List.getElem?_eq_getElem hk]
  simp [List.getD, hk]
/-- of those left the next one is the greatest, and the first of the greatest -/
theorem Ord.best {N : Nat} {x : Nat → Int} {od : List Nat} (h : Ord N x od) {k i : Nat} (hk : k < N) (hi : i < N) (hn : i ∉ od.take k) : x i ≤ x (od.getD k 0) ∧ (i < od.getD k 0 → x i < x (od.getD k 0)) := by
  have hk' : k < od.length := by rw [h.len]; exact hk
  have hm := h.mem hi
  rw [← List.take_append_drop k od] at hm
  rcases List.mem_append.1 hm with hm | hm
  · exact absurd hm hn
  · have hs := h.srt.sublist (List.drop_sublist k od)
    rw [drop_getD od hk'] at hm hs
    rcases List.mem_cons.1 hm with rfl | hm
    · exact ⟨Int.le_refl _, fun h => absurd h (Nat.lt_irrefl _)⟩
    · have := (List.pairwise_cons.1 hs).1 i hm
      omega
theorem Ord.next {N : Nat} {x : Nat → Int} {od : List Nat} (h : Ord N x od) {k : Nat} (hk : k < N) : od.getD k 0 ∉ od.take k := by
  have hk' : k < od.length := by rw [h.len]; exact hk
  have hn := h.nodup
  rw [← List.take_append_drop k od, drop_getD od hk', List.nodup_append] at hn
  intro hm
  exact hn.2.2 _ hm _ (List.mem_cons_self) rfl

/-- what is left of the sum behind k units -/
def T (x : Nat → Int) (od : List Nat) (k : Nat) : Int := ((od.drop k).map x).sum
theorem T_next {N : Nat} {x : Nat → Int} {od : List Nat} (h : Ord N x od) {k : Nat} (hk : k < N) : T x od k = x (od.getD k 0) + T x od (k + 1) := by
  unfold T
  rw [drop_getD od (by rw [h.len]; exact hk)]
  simp
theorem T_end {N : Nat} {x : Nat → Int} {od : List Nat} (h : Ord N x od) : T x od N = 0 := by
  unfold T
  rw [← h.len, List.drop_length]
  rfl
theorem sum_perm {l m : List Int} (h : l.Perm m) : l.sum = m.sum := by
  induction h with
  | nil => rfl
  | cons a _ ih => simp [ih]
  | swap a b l => simp; omega
  | trans _ _ ih1 ih2 => rw [ih1, ih2]
theorem T_all {N : Nat} {x : Nat → Int} {od : List Nat} (h : Ord N x od) : T x od 0 = ((List.range N).map x).sum := by
  unfold T
  rw [List.drop_zero]
  exact sum_perm (h.perm.map x)
theorem T_bd {N : Nat} {x : Nat → Int} {od : List Nat} (h : Ord N x od) (hx : ∀ i, i < N → 1 ≤ x i ∧ x i ≤ 1099511627776) : ∀ d k, k + d = N → (d : Int) ≤ T x od k ∧ T x od k ≤ (d : Int) * 1099511627776 := by
  intro d
  induction d with
  | zero => intro k hk; obtain rfl : k = N := by omega
            rw [T_end h]; simp
  | succ d ih =>
    intro k hk
    have hk' : k < N := by omega
    have := hx _ (h.get hk')
    have := ih (k + 1) (by omega)
    rw [T_next h hk']
    omega
/-- K units are certain -/
structure Cert (N : Nat) (x : Nat → Int) (od : List Nat) (n K : Nat) : Prop where
  le : K ≤ N
  go : ∀ j, j < K → T x od j ≤ x (od.getD j 0) * ((n : Int) - (j : Int))
  stop : K < N → x (od.getD K 0) * ((n : Int) - (K : Int)) < T x od K
theorem cert_ex {N : Nat} (x : Nat → Int) (od : List Nat) (n : Nat) : ∃ K, Cert N x od n K := by
  have key : ∀ d k, k + d = N → (∀ j, j < k → T x od j ≤ x (od.getD j 0) * ((n : Int) - (j : Int))) → ∃ K, Cert N x od n K := by
    intro d
    induction d with
    | zero => intro k hk hj; exact ⟨k, by omega, hj, fun h => by omega⟩
    | succ d ih =>
      intro k hk hj
      by_cases h : x (od.getD k 0) * ((n : Int) - (k : Int)) < T x od k
      · exact ⟨k, by omega, hj, fun _ => h⟩
      · refine ih (k + 1) (by omega) (fun j hj' => ?_)
        by_cases e : j = k
        · rw [e]; omega
        · exact hj j (by omega)
  exact key N 0 (by omega) (fun j hj => by omega)
theorem Cert.n_le {N : Nat} {x : Nat → Int} {od : List Nat} {n K : Nat} (c : Cert N x od n K) (h : Ord N x od) (hx : ∀ i, i < N → 1 ≤ x i ∧ x i ≤ 1099511627776) {j : Nat} (hj : j < K) : j < n := by
  have h1 := c.go j hj
  have hN := c.le
  have h2 := (T_bd h hx (N - j) j (by omega)).1
  have h3 := hx _ (h.get (show j < N by omega))
  by_cases e : j < n
  · exact e
  · exfalso
    have h4 : x (od.getD j 0) * ((n : Int) - (j : Int)) ≤ 0 := Int.mul_nonpos_of_nonneg_of_nonpos (by omega) (by omega)
    omega
theorem Cert.K_le {N : Nat} {x : Nat → Int} {od : List Nat} {n K : Nat} (c : Cert N x od n K) (h : Ord N x od) (hx : ∀ i, i < N → 1 ≤ x i ∧ x i ≤ 1099511627776) : K ≤ n := by
  cases K with
  | zero => omega
  | succ K => exact c.n_le h hx (Nat.lt_succ_self K)

theorem finRange_val (N : Nat) : (List.finRange N).map Fin.val = List.range N := by
  apply List.ext_getElem
  · simp
  · intro i h1 h2
    simp
/-- the order that the sort leaves -/
theorem ord_sort (N : Nat) [Inhabited (Fin N)] (x : Nat → Int) : ∃ l : List (Fin N), Sort.insertionSort (ltk fun i : Fin N => -x i.val) (List.finRange N).toArray 0 N = l.toArray ∧ Ord N x (l.map Fin.val) ∧ l.length = N := by
  refine ⟨isort (fun i : Fin N => -x i.val) (List.finRange N), ?_, ⟨?_, ?_⟩, by rw [isort_length, List.length_finRange]⟩
  · have := sort_isort (fun i : Fin N => -x i.val) (List.finRange N)
    rwa [List.length_finRange] at this
  · have := (isort_perm (fun i : Fin N => -x i.val) (List.finRange N)).map Fin.val
    rwa [finRange_val] at this
  · rw [List.pairwise_map]
    refine (isort_srt (fun i : Fin N => -x i.val) (idx := Fin.val) (List.finRange N) ?_).imp ?_
    · rw [List.pairwise_iff_getElem]
      intro i j hi hj hij
      simpa using hij
    · intro a b h
      simp only [Rk] at h
      omega
end Go.Proofs.Ytcnghhlchjcdhaa.Dr
/- ranked: up to nineteen units in the order of any comparison of units. -/
namespace Go.Proofs.Ytcnghhlchjcdhaa.Dr
open Go.RowKit Go.Sort

def encN {N : Nat} (i : Fin N) : Value := .int .i64 (i.val : Int)
theorem sortN_below {N B : Nat} [Inhabited (Fin N)] {w : World} {blk m : Nat} {dk : Array (Fin N)} {os : Array Obj} (hB : B ≤ blk) (hw : B ≤ w.heap.size) : Below B w (sortWorld encN w blk 0 m dk os) := by
  refine ⟨rfl, rfl, rfl, ?_, fun k hk => ?_⟩
  · simp [sortWorld, grow, putRow, mapBlock, Sort.ahead]
  · unfold sortWorld
    rw [heap_grow_old _ _ (by simp [putRow, mapBlock, Sort.ahead]; omega)]
    have : blk ≠ k := by omega
    simp [putRow, mapBlock, Sort.ahead, Array.getElem?_modify, this]
/-- a comparison of units that reads what lies behind w -/
def CmpU (N : Nat) (cf : Fin N → Fin N → Int) (F : Nat) (cb : Array Value) (w : World) : Prop := ∀ W, Below w.heap.size w W → ∀ x y : Fin N, Calls Try.prog F (#[.int .i64 (x.val : Int), .int .i64 (y.val : Int)] ++ cb) W fun e w' => e = .returned (.int .i64 (cf x y)) ∧ ∃ q, w' = W.drewN q
/-- the row as the sort leaves it -/
def srtL {N : Nat} [Inhabited (Fin N)] (cf : Fin N → Fin N → Int) : List Value := (Sort.insertionSort (ltOf cf) (List.finRange N).toArray 0 N).toList.map encN
def SN (N : Nat) [Inhabited (Fin N)] (cf : Fin N → Fin N → Int) (base g : Nat) (w : World) (e : Ending) (w' : World) : Prop := e = .returned (.tuple #[]) ∧ w'.ownsRow base 3 1 (.slice (some ⟨g, 0, none⟩) N N) N (srtL cf) ∧ w.grownBy w' (some g)
theorem fin_vals (N : Nat) : (List.finRange N).map encN = (List.range N).map (fun (j : Nat) => Value.int .i64 (j : Int)) := by
  rw [← finRange_val N, List.map_map]
  rfl

theorem ins_rk (N : Nat) [Inhabited (Fin N)] (hN : N ≤ 1000) (cf : Fin N → Fin N → Int) (F : Nat) (cb : Array Value) (eg : ∀ args w, (callFunc F args).run Try.prog w = .ok (.enter F args) w) (base g : Nat) (w0 w : World) (hcl : CmpU N cf F cb w0) (hb : Below w0.heap.size w0 w) (hg0 : w0.heap.size ≤ g)
    (h : w.ownsRow base 3 1 (.slice (some ⟨g, 0, none⟩) N N) N ((List.range N).map (fun (j : Nat) => Value.int .i64 (j : Int)))) (hs : (Sort.insertionSort (ltOf cf) (List.finRange N).toArray 0 N).size = N) :
    Calls Try.prog 82 #[.slice (some ⟨g, 0, none⟩) N N, .int .i64 0, .int .i64 (N : Int), .func (.func F) #[] cb] w (SN N cf base g w) := by
  have hcmp : CmpReads Try.prog F cb encN cf g 0 (List.finRange N).toArray.size w := by
    intro m os dk _ x y
    exact hcl _ (hb.trans (sortN_below hg0 hb.size)) x y
  have hH : Go.Sort.Holds encN w g 0 (List.finRange N).toArray := by
    intro j hj
    have hjN : j < N := by simpa using hj
    refine ⟨?_, by simpa using h.frozenAt j⟩
    rw [Nat.zero_add]
    refine (h.cellAt j (by omega)).trans ?_
    simp [hjN, encN]
  have hins := Try.insertionSortCmpFunc_one encN (fun _ => rfl) cf F cb g 0 N 0 N (List.finRange N).toArray w eg hcmp hH (by omega) (by simp) (by simp; omega)
  rw [show (List.finRange N).toArray.size = N by simp] at hins
  refine hins.mono ?_
  rintro e w' ⟨rfl, n, rfl⟩
  obtain ⟨r1, r2⟩ := row_put (q := n) encN _ h hs
  exact ⟨rfl, r1, r2⟩

set_option maxHeartbeats 4000000 in
theorem stc_rk (N : Nat) [Inhabited (Fin N)] (hN : N ≤ 19) (cf : Fin N → Fin N → Int) (F : Nat) (cb : Array Value) (base g : Nat) (w : World)
    (h : Calls Try.prog 82 #[.slice (some ⟨g, 0, none⟩) N N, .int .i64 0, .int .i64 (N : Int), .func (.func F) #[] cb] w (SN N cf base g w)) :
    Calls Try.prog 74 #[.slice (some ⟨g, 0, none⟩) N N, .int .i64 (N : Int), .func (.func F) #[] cb] w (SN N cf base g w) := by
  have HC := Lib.hid h
  have hn2 : ¬ (20 : Int) ≤ (N : Int) := by omega
  have hn3 : ¬ (20 : Int) < (N : Int) := by omega
  clear h
  go_enter Try.func74, Try.ntmps74
  go_wp2_with fail
  go_loopw [7, 8] (fun s7 s8 wr => s7 = .int .i64 0 ∧ s8 = .int .i64 20 ∧ wr = w) (fun _ _ _ => 0)
  case atStart => exact ⟨rfl, rfl, rfl⟩
  case round =>
    obtain ⟨rfl, rfl, rfl⟩ := hrel
    go_wp2_with fail
    refine HC.out.mono ?_; rintro e w2 ⟨rfl, h2, h3⟩
    have H2 : Hid (SN N cf base g wr (.returned (.tuple #[])) w2) := ⟨rfl, h2, h3⟩
    clear h2 h3
    go_wp2_with fail
    go_loopw [6] (fun s6 wr => s6 = .int .i64 20 ∧ wr = w2) (fun _ _ => 0)
    case atStart => exact ⟨rfl, rfl⟩
    case round =>
      obtain ⟨rfl, rfl⟩ := hrel
      go_wp2_with fail
      go_end0
      exact H2.out
set_option maxHeartbeats 4000000 in
theorem sta_rk (N : Nat) [Inhabited (Fin N)] (hN : N ≤ 19) (cf : Fin N → Fin N → Int) (F : Nat) (cb : Array Value) (base g : Nat) (w : World)
    (h : Calls Try.prog 82 #[.slice (some ⟨g, 0, none⟩) N N, .int .i64 0, .int .i64 (N : Int), .func (.func F) #[] cb] w (SN N cf base g w)) :
    Calls Try.prog 53 #[.slice (some ⟨g, 0, none⟩) N N, .func (.func F) #[] cb] w (SN N cf base g w) := by
  have D := Lib.hid (stc_rk N hN cf F cb base g w h)
  have hN0 : (0 : Int) ≤ (N : Int) := by omega
  clear h
  go_enter Try.func53, Try.ntmps53
  go_wp2_with fail
  refine D.out.mono ?_; rintro e w2 ⟨rfl, h2, h3⟩
  go_wp2_with fail
  go_end0
  exact ⟨rfl, h2, h3⟩

/-- the units laid so far -/
def flN (N i : Nat) : List Value := (List.range N).map (fun (j : Nat) => Value.int .i64 (if j < i then (j : Int) else 0))
theorem flN_len (N i : Nat) : (flN N i).length = N := by simp [flN]
theorem flN_zero (N : Nat) : flN N 0 = List.replicate N (Value.int .i64 0) := by
  apply List.ext_getElem
  · simp [flN]
  · intro i h1 h2
    simp [flN]
theorem flN_all (N : Nat) : flN N N = (List.range N).map (fun (j : Nat) => Value.int .i64 (j : Int)) := by
  apply List.ext_getElem
  · simp [flN]
  · intro i h1 h2
    have : i < N := by simpa [flN] using h1
    simp [flN, this]
theorem flN_set (N i : Nat) (_ : i < N) : (flN N i).set i (.int .i64 (i : Int)) = flN N (i + 1) := by
  apply List.ext_getElem
  · simp [flN]
  · intro j h1 h2
    have hj : j < N := by simpa [flN] using h2
    rw [List.getElem_set]
    by_cases e : i = j
    · subst e; simp [flN]
    · have : (j < i) = (j < i + 1) := by apply propext; omega
      simp [flN, e, this]
def RankPost (N : Nat) (l : List Value) (w : World) (e : Ending) (w' : World) : Prop := ∃ g, e = .returned (.slice (some ⟨g, 0, none⟩) N N) ∧ w'.ownsRow w.heap.size 3 1 (.slice (some ⟨g, 0, none⟩) N N) N l ∧ Below w.heap.size w w'

set_option maxHeartbeats 8000000 in
set_option maxRecDepth 100000 in
theorem ranked_any (N : Nat) [Inhabited (Fin N)] (hN : N ≤ 19) (cf : Fin N → Fin N → Int) (F : Nat) (cb : Array Value) (eg : ∀ args w, (callFunc F args).run Try.prog w = .ok (.enter F args) w) (w : World) (hcl : CmpU N cf F cb w) (hs : (Sort.insertionSort (ltOf cf) (List.finRange N).toArray 0 N).size = N) :
    Calls Try.prog 30 #[.int .i64 (N : Int), .func (.func F) #[] cb] w (RankPost N (srtL cf) w) := by
  obtain ⟨i0, hi, hz0, hz1, hz2⟩ := info_partsr infoInt10
  have HCL := Lib.hid hcl
  have HEG : Hid (∀ args w, (callFunc F args).run Try.prog w = .ok (.enter F args) w) := eg
  have HSS := Lib.hid hs
  clear hcl eg hs
  go_enter Try.func30, Try.ntmps30
  go_wp2_with (at_make; go_loud (refine wpList_make_full _ rfl _ _ 23 rfl w.heap.size 3 i0 (.int .i64 0) 1 Try.underlying23 hi hz0 hz1 _ _ _ _ N rfl rfl (by omega) (by omega) (by rw [hz2]; omega) (by unfold maxLen; omega) (Nat.le_refl _) ?_); intro w1 hown hgr)
  all_goals
    obtain ⟨g, hg⟩ : ∃ g, g = w.heap.size := ⟨_, rfl⟩
    have hbel : Below w.heap.size w w1 := (Below.refl _ _).grown hgr (Nat.le_refl _) (fun k hk => by cases hk)
    have hown0 : w1.ownsRow w.heap.size 3 1 (.slice (some ⟨w.heap.size, 0, none⟩) N N) N (flN N 0) := by
      have e : (madeCells (Value.int .i64 0).cells (N * 1)).toList = flN N 0 := by rw [show (Value.int .i64 0).cells = #[Value.int .i64 0] from rfl, toList_madeCells_one, Nat.mul_one, flN_zero]
      rw [← e]; exact hown
    rw [← hg] at hown0
    clear hown hgr hi hz0 hz1 hz2
    have HB := Lib.hid hbel
    have HO := Lib.hid hown0
    have HG := Lib.hid hg
    clear hown0 hbel
    try rw [← hg]
    clear hg
    go_loopw [10] (fun s10 wr => ∃ i : Nat, i ≤ N ∧ s10 = .int .i64 (i : Int) ∧ Hid (wr.ownsRow g 3 1 (.slice (some ⟨g, 0, none⟩) N N) N (flN N i)) ∧ Hid (Below g w wr)) (fun s10 _ => N - (intOf s10).toNat)
    case atStart => exact ⟨0, by omega, rfl, HO, by rw [HG.out]; exact HB⟩
    case round =>
      obtain ⟨i, hiN, rfl, ho, hb⟩ := hrel
      by_cases hlt : i < N
      · have hlt2 : (i : Int) < (N : Int) := by omega
        obtain ⟨v0, hv0⟩ : ∃ v, wr.cell? ⟨g, i, none⟩ = some v := ⟨_, (ho.out.cellAt i (by omega)).trans (List.getElem?_eq_getElem (by rw [flN_len]; omega))⟩
        have hf0 := ho.out.frozenAt i
        obtain ⟨hst, hgs⟩ := ho.out.stored i (.int .i64 (i : Int))
        rw [flN_set N i hlt] at hst
        have HST := Lib.hid hst
        have HBS : Hid (Below g w (wr.setCell ⟨g, i, none⟩ (.int .i64 (i : Int)))) := hb.out.setCell (Nat.le_refl _) _
        clear hst hgs ho hb
        go_wp2_with fail
        go_roundw
        case rel => exact ⟨i + 1, by omega, by go_num, HST, HBS⟩
        case measure => simp [intOf]; omega
      · obtain rfl : i = N := by omega
        have hlt2 : ¬ (i : Int) < (i : Int) := by omega
        have hb' := hb.out
        rw [HG.out] at hb'
        have hro := ho.out
        rw [flN_all] at hro
        have HSR := Lib.hid (sta_rk i hN cf F cb g g wr (ins_rk i (by omega) cf F cb HEG.out g g w wr HCL.out hb' (by rw [HG.out]; exact Nat.le_refl _) hro HSS.out))
        have HBB := Lib.hid hb'
        clear hb' hro
        go_wp2_with fail
        refine HSR.out.mono ?_; rintro e w4 ⟨rfl, h4, g4⟩
        have H4 := Lib.hid h4
        have HB4 : Hid (Below w.heap.size w w4) := HBB.out.grown g4 HBB.out.size (fun k e => by cases e; rw [HG.out]; exact Nat.le_refl _)
        clear h4 g4
        go_wp2_with fail
        go_ret
        exact ⟨g, rfl, by rw [← HG.out]; exact H4.out, HB4.out⟩
end Go.Proofs.Ytcnghhlchjcdhaa.Dr
/- A draw: sizes compared; the units in the order of their sizes. -/
namespace Go.Proofs.Ytcnghhlchjcdhaa.Dr
open Go.RowKit Go.Sort C6

def cmpi (a b : Int) : Int := if a < b then -1 else if b < a then 1 else 0
theorem lt_sizes (x : Nat → Int) {N : Nat} : (ltOf fun a b : Fin N => cmpi (x b.val) (x a.val)) = ltk (fun i : Fin N => -x i.val) := by
  funext a b
  unfold ltOf ltk cmpi
  apply decide_eq_decide.2
  show (if x b.val < x a.val then (-1 : Int) else if x a.val < x b.val then 1 else 0) < 0 ↔ -x a.val < -x b.val
  split
  · omega
  · split <;> omega
end Go.Proofs.Ytcnghhlchjcdhaa.Dr
/- A draw: whether sizes are sizes; the units that are certain. -/
namespace Go.Proofs.Ytcnghhlchjcdhaa.Dr
open Go.RowKit Go.Sort C6 SN

def szOk (x : Int) : Bool := decide (1 ≤ x) && decide (x ≤ 1099511627776)
def szs (xs : List Int) : Bool := decide (1 ≤ xs.length) && xs.all szOk
theorem szs_at {xs : List Int} (h : szs xs = true) {i : Nat} (hi : i < xs.length) : 1 ≤ xs.getD i 0 ∧ xs.getD i 0 ≤ 1099511627776 := by
  unfold szs at h
  rw [Bool.and_eq_true, List.all_eq_true] at h
  have := h.2 (xs.getD i 0) (by simp [List.getD, hi])
  simpa [szOk] using this
theorem szs_bad {xs : List Int} {i : Nat} (hi : i < xs.length) (h : szOk (xs.getD i 0) = false) : szs xs = false := by
  cases hs : szs xs with
  | false => rfl
  | true =>
    have := szs_at hs hi
    simp only [szOk] at h
    rw [decide_eq_true this.1, decide_eq_true this.2] at h
    cases h
theorem szs_good {xs : List Int} (h0 : 1 ≤ xs.length) (h : ∀ i, i < xs.length → szOk (xs.getD i 0) = true) : szs xs = true := by
  unfold szs
  rw [Bool.and_eq_true, List.all_eq_true]
  refine ⟨decide_eq_true h0, fun x hx => ?_⟩
  obtain ⟨i, hi, rfl⟩ := List.mem_iff_getElem.1 hx
  have := h i hi
  simpa [List.getD, hi] using this

theorem rdv_gb {w w' : World} {g : Nat} {ao : Option Addr} {cap : Nat} {vs : List Value} (h : RdV w ao cap vs) (hb : 0 < vs.length → ∀ b o, ao = some ⟨b, o, none⟩ → b ≠ g) (b : w.grownBy w' (some g)) : RdV w' ao cap vs := by
  refine ⟨h.1, h.2.1, ?_⟩
  rcases h.2.2 with hn | ⟨bk, o, e, hc⟩
  · exact .inl hn
  · refine .inr ⟨bk, o, e, fun i v hi => ?_⟩
    have hl : 0 < vs.length := by have := (List.getElem?_eq_some_iff.1 hi).1; omega
    have h1 := hc i v hi
    have hlt := World.block_lt_of_cell? _ _ h1
    exact (World.cell?_of_block (a := ⟨bk, o + i, none⟩) (b.block bk hlt (fun q => hb hl bk o e (Option.some.inj q)))).trans h1
theorem gbRow {A w w' : World} {B base n size : Nat} {e : TypeId} {v : Value} {xs : List Value} (h : A.grownBy w (some B)) (ho : w.ownsRow base e size v n xs) (hb : A.heap.size ≤ base) (g : w.grownBy w' v.ownBlock) : A.grownBy w' (some B) :=
  ⟨g.os.trans h.os, g.tape.trans h.tape, g.output.trans h.output, Nat.le_trans h.size g.size, fun b hlt hne => (g.block b (Nat.lt_of_lt_of_le hlt h.size) (fun q => by have := (ho.lt b q.symm).1; omega)).trans (h.block b hlt hne)⟩
theorem bdN {B : Nat} {w w' : World} (h : Below B w w') (q : Nat) : Below B w (w'.drewN q) := ⟨h.os, h.tape, h.output, h.size, h.block⟩
theorem gbN {w w' : World} {r : Option Nat} (h : w.grownBy w' r) (q : Nat) : w.grownBy (w'.drewN q) r := ⟨h.os, h.tape, h.output, h.size, h.block⟩
/-- places as values -/
def iz (l : List Nat) : List Int := l.map (fun (i : Nat) => (i : Int))
theorem iz_len (l : List Nat) : (iz l).length = l.length := by simp [iz]
theorem iz_snoc (l : List Nat) (i : Nat) : iz (l ++ [i]) = iz l ++ [(i : Int)] := by simp [iz]
theorem intz_snoc' (l : List Int) (x : Int) : intz (l ++ [x]) = intz l ++ [Value.int .i64 x] := by simp [intz]
theorem iz_vals (l : List Nat) : l.map (fun (i : Nat) => Value.int .i64 (i : Int)) = intz (iz l) := by simp [intz, iz]
end Go.Proofs.Ytcnghhlchjcdhaa.Dr
/- A draw: the pieces of the units that are not certain. -/
namespace Go.Proofs.Ytcnghhlchjcdhaa.Dr
open Go.RowKit Go.Sort C6

theorem iz_contains (C : List Nat) (i : Nat) : (iz C).contains (i : Int) = decide (i ∈ C) := by
  induction C with
  | nil => simp [iz]
  | cons a l ih =>
    have e : iz (a :: l) = (a : Int) :: iz l := rfl
    have h2 : ((i : Int) == (a : Int)) = decide (i = a) := by
      by_cases h : i = a
      · subst h; simp
      · rw [decide_eq_false h]; exact beq_eq_false_iff_ne.2 (by omega)
    rw [e, List.contains_cons, ih, h2]
    simp only [List.mem_cons, Bool.decide_or]

abbrev Pc := Nat × Int × Int
def pcv (l : List Pc) : List Value := l.flatMap fun p => [.int .i64 (p.1 : Int), .int .i64 p.2.1, .int .i64 p.2.2]
theorem pcv_snoc (l : List Pc) (i : Nat) (a b : Int) : pcv (l ++ [(i, a, b)]) = pcv l ++ [.int .i64 (i : Int), .int .i64 a, .int .i64 b] := by simp [pcv]
theorem pcv_len (l : List Pc) : (pcv l).length = l.length * 3 := by
  induction l with
  | nil => rfl
  | cons p l ih =>
    have : pcv (p :: l) = [.int .i64 (p.1 : Int), .int .i64 p.2.1, .int .i64 p.2.2] ++ pcv l := rfl
    rw [this, List.length_append, ih]
    simp; omega
/-- the pieces of the first i units, and where the line ends -/
def lays (x : Nat → Int) (C : List Nat) (m : Int) : Nat → List Pc × Int
  | 0 => ([], 0)
  | i + 1 => if i ∈ C then lays x C m i else ((lays x C m i).1 ++ [(i, (lays x C m i).2, (lays x C m i).2 + x i * m)], (lays x C m i).2 + x i * m)
theorem lays_in {x : Nat → Int} {C : List Nat} {m : Int} {i : Nat} (h : i ∈ C) : lays x C m (i + 1) = lays x C m i := by
  rw [lays, if_pos h]
theorem lays_out {x : Nat → Int} {C : List Nat} {m : Int} {i : Nat} (h : ¬ i ∈ C) : lays x C m (i + 1) = ((lays x C m i).1 ++ [(i, (lays x C m i).2, (lays x C m i).2 + x i * m)], (lays x C m i).2 + x i * m) := by
  rw [lays, if_neg h]
theorem lays_bd {x : Nat → Int} {C : List Nat} {m : Int} (hm : 0 ≤ m ∧ m ≤ 19) {N : Nat} (hx : ∀ i, i < N → 1 ≤ x i ∧ x i ≤ 1099511627776) : ∀ i, i ≤ N → 0 ≤ (lays x C m i).2 ∧ (lays x C m i).2 ≤ (i : Int) * 20890720927744 ∧ (lays x C m i).1.length ≤ i := by
  intro i
  induction i with
  | zero => intro _; simp [lays]
  | succ i ih =>
    intro hi
    have h := ih (by omega)
    by_cases hc : i ∈ C
    · rw [lays_in hc]; omega
    · rw [lays_out hc]
      have hxi := hx i (by omega)
      have h1 : 0 ≤ x i * m := Int.mul_nonneg (by omega) hm.1
      have h2 : x i * m ≤ 1099511627776 * 19 := Int.mul_le_mul hxi.2 hm.2 hm.1 (by omega)
      simp only [List.length_append, List.length_singleton]
      omega
end Go.Proofs.Ytcnghhlchjcdhaa.Dr
/- A draw of sizes and a number: newDraw. -/
namespace Go.Proofs.Ytcnghhlchjcdhaa.Dr
open Go.RowKit Go.Sort C6

/-- the slice reads pieces -/
def RdP (w : World) (ao : Option Addr) (cap : Nat) (l : List Pc) : Prop :=
  l.length ≤ cap ∧ cap ≤ 9223372036854775807 ∧ ((l = [] ∧ (ao = none → cap = 0)) ∨ ∃ b o, ao = some ⟨b, o, none⟩ ∧ ∀ j v, (pcv l)[j]? = some v → w.cell? ⟨b, o + j, none⟩ = some v)
theorem RdP.gb {w w' : World} {g : Nat} {ao : Option Addr} {cap : Nat} {l : List Pc} (h : RdP w ao cap l) (hb : 0 < l.length → ∀ b o, ao = some ⟨b, o, none⟩ → b ≠ g) (k : w.grownBy w' (some g)) : RdP w' ao cap l := by
  refine ⟨h.1, h.2.1, ?_⟩
  rcases h.2.2 with hn | ⟨bk, o, e, hc⟩
  · exact .inl hn
  · refine .inr ⟨bk, o, e, fun i v hi => ?_⟩
    have hl : 0 < l.length := by have := (List.getElem?_eq_some_iff.1 hi).1; rw [pcv_len] at this; omega
    have h1 := hc i v hi
    have hlt := World.block_lt_of_cell? _ _ h1
    exact (World.cell?_of_block (a := ⟨bk, o + i, none⟩) (k.block bk hlt (fun q => hb hl bk o e (Option.some.inj q)))).trans h1
theorem RdP.below {w w' : World} {ao : Option Addr} {cap : Nat} {l : List Pc} (h : RdP w ao cap l) (b : Below w.heap.size w w') : RdP w' ao cap l := by
  refine ⟨h.1, h.2.1, ?_⟩
  rcases h.2.2 with hn | ⟨bk, o, e, hc⟩
  · exact .inl hn
  · exact .inr ⟨bk, o, e, fun i v hi => (b.cell (World.block_lt_of_cell? _ _ (hc i v hi))).trans (hc i v hi)⟩
/-- the three cells of a piece -/
theorem RdP.at {w : World} {ao : Option Addr} {cap : Nat} {l : List Pc} (h : RdP w ao cap l) {i : Nat} (hi : i < l.length) : ∃ b o, ao = some ⟨b, o, none⟩ ∧ w.cell? ⟨b, o + i * 3, none⟩ = some (.int .i64 ((l[i]).1 : Int)) ∧ w.cell? ⟨b, o + i * 3 + 1, none⟩ = some (.int .i64 (l[i]).2.1) ∧ w.cell? ⟨b, o + i * 3 + 2, none⟩ = some (.int .i64 (l[i]).2.2) := by
  rcases h.2.2 with ⟨e, _⟩ | ⟨b, o, e, hc⟩
  · rw [e] at hi; simp at hi
  · have key : ∀ (l : List Pc) (i : Nat) (hi : i < l.length), (pcv l)[i * 3]? = some (.int .i64 ((l[i]).1 : Int)) ∧ (pcv l)[i * 3 + 1]? = some (.int .i64 (l[i]).2.1) ∧ (pcv l)[i * 3 + 2]? = some (.int .i64 (l[i]).2.2) := by
      intro l
      induction l with
      | nil => intro i hi; simp at hi
      | cons p l ih =>
        intro i hi
        have e : pcv (p :: l) = [.int .i64 (p.1 : Int), .int .i64 p.2.1, .int .i64 p.2.2] ++ pcv l := rfl
        cases i with
        | zero => exact ⟨rfl, rfl, rfl⟩
        | succ i =>
          have := ih i (by simpa using hi)
          rw [e, show (i + 1) * 3 = i * 3 + 3 by omega, show i * 3 + 3 + 1 = i * 3 + 1 + 3 by omega, show i * 3 + 3 + 2 = i * 3 + 2 + 3 by omega]
          simpa using this
    obtain ⟨k0, k1, k2⟩ := key l i hi
    refine ⟨b, o, e, hc _ _ k0, ?_, ?_⟩
    · rw [Nat.add_assoc]; exact hc _ _ k1
    · rw [Nat.add_assoc]; exact hc _ _ k2

/-- the error of sizes and a number -/
def drE (xs : List Int) (n : Int) : Int := if szs xs = false then 100 else if n < 1 ∨ (xs.length : Int) < n then 102 else 0
def fx (xs : List Int) (i : Nat) : Int := xs.getD i 0
/-- what newDraw gives -/
def NDPost (xs : List Int) (n : Int) (w : World) (e : Ending) (w' : World) : Prop := Below w.heap.size w w' ∧
  ((drE xs n ≠ 0 ∧ e = .returned (.tuple #[.agg #[.slice none 0 0, .slice none 0 0, .int .i64 0, .int .i64 0], .int .i64 (drE xs n)])) ∨
   (drE xs n = 0 ∧ ∃ (m : Nat) (od : List Nat) (K : Nat) (ca pa : Option Addr) (cc pc : Nat), n = (m : Int) ∧ 1 ≤ m ∧ m ≤ xs.length ∧ szs xs = true ∧ Ord xs.length (fx xs) od ∧ Cert xs.length (fx xs) od m K ∧
    e = .returned (.tuple #[.agg #[.slice ca K cc, .slice pa (lays (fx xs) (od.take K) ((m : Int) - (K : Int)) xs.length).1.length pc, .int .i64 ((m : Int) - (K : Int)), .int .i64 (T (fx xs) od K)], .int .i64 0]) ∧
    RdZ w' ca cc (iz (od.take K)) ∧ RdP w' pa pc (lays (fx xs) (od.take K) ((m : Int) - (K : Int)) xs.length).1))
theorem range_sum (x : Nat → Int) (i : Nat) : ((List.range (i + 1)).map x).sum = ((List.range i).map x).sum + x i := by
  rw [List.range_succ, List.map_append, List.sum_append]
  simp
theorem sum_bd {x : Nat → Int} {N : Nat} (hx : ∀ i, i < N → 1 ≤ x i ∧ x i ≤ 1099511627776) : ∀ i, i ≤ N → 0 ≤ ((List.range i).map x).sum ∧ ((List.range i).map x).sum ≤ (i : Int) * 1099511627776 := by
  intro i
  induction i with
  | zero => intro _; simp
  | succ i ih =>
    intro hi
    have := ih (by omega)
    have := hx i (by omega)
    rw [range_sum]
    omega
end Go.Proofs.Ytcnghhlchjcdhaa.Dr
