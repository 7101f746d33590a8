import Derived.Test.YtdcnkebcpaelpaaTfQ0
import Derived.Deep.RegionLaw
import Derived.Deep.Cut
import Derived.Test.YtdcnkebcpaelpaaTfG0
import Derived.Deep.RegionHeld
import Derived.OwnWalkIn
/- Layer 14: blocks of one price in succession as one: the reference's lists and the code's stretches say the same. -/
namespace Go.Proofs.Ytdcnkebcpaelpaa.T14

theorem getD_set' {α : Type} (l : List α) (m i : Nat) (x d : α) : (l.set m x).getD i d = if i = m ∧ m < l.length then x else l.getD i d := by
  simp only [List.getD, List.getElem?_set]
  by_cases h : m = i
  · subst h
    by_cases h2 : m < l.length
    · simp [h2]
    · simp [h2]
  · simp [h, Ne.symm h]
theorem getD_snoc' {α : Type} (l : List α) (i : Nat) (x d : α) : (l ++ [x]).getD i d = if i < l.length then l.getD i d else if i = l.length then x else d := by
  simp only [List.getD]
  by_cases h : i < l.length
  · rw [if_pos h, List.getElem?_append_left h]
  · rw [if_neg h, List.getElem?_append_right (by omega)]
    by_cases h2 : i = l.length
    · subst h2; simp
    · rw [if_neg h2]
      have : i - l.length ≠ 0 := by omega
      cases e : i - l.length with
      | zero => exact absurd e this
      | succ k => rfl
/-- one more block -/
def jst (J : List (Int × Int)) (b : Int × Int) : List (Int × Int) := if 0 < J.length ∧ prc J (J.length - 1) = b.2 then J.set (J.length - 1) b else J ++ [b]
/-- the first blocks, those of one price in succession as one -/
def jn (bs : List (Int × Int)) : Nat → List (Int × Int)
  | 0 => []
  | k + 1 => jst (jn bs k) (bs.getD k (0, 0))
theorem jst_len (J : List (Int × Int)) (b : Int × Int) : 0 < (jst J b).length ∧ (jst J b).length ≤ J.length + 1 := by
  unfold jst
  split
  · rename_i h; rw [List.length_set]; omega
  · simp
theorem jn_len (bs : List (Int × Int)) : ∀ k, (jn bs k).length ≤ k
  | 0 => by simp [jn]
  | k + 1 => by have := jn_len bs k; have := (jst_len (jn bs k) (bs.getD k (0, 0))).2; show (jst _ _).length ≤ _; omega
theorem jst_last (J : List (Int × Int)) (b : Int × Int) : (jst J b).getD ((jst J b).length - 1) (0, 0) = b := by
  unfold jst
  split
  · rename_i h
    rw [List.length_set, getD_set', if_pos ⟨rfl, by omega⟩]
  · rw [List.length_append, List.length_singleton, Nat.add_sub_cancel, getD_snoc', if_neg (by omega), if_pos rfl]
theorem jst_up {J : List (Int × Int)} {b : Int × Int} {B : Int} (hJ : ∀ i, 0 ≤ up J i ∧ up J i ≤ B) (hb : 0 ≤ b.1 ∧ b.1 ≤ B) (i : Nat) : 0 ≤ up (jst J b) i ∧ up (jst J b) i ≤ B := by
  have h0 := hJ i
  unfold up at h0 ⊢
  unfold jst
  split
  · rw [getD_set']
    split
    · exact hb
    · exact h0
  · rw [getD_snoc']
    split
    · exact h0
    · split
      · exact hb
      · exact ⟨Int.le_refl _, by show (0 : Int) ≤ B; omega⟩
theorem jn_up {bs : List (Int × Int)} (h : OkB bs) : ∀ k i, 0 ≤ up (jn bs k) i ∧ up (jn bs k) i ≤ 1099511627776
  | 0, i => by simp [jn, up]
  | k + 1, i => jst_up (jn_up h k) (by have := getD_mag h k; exact ⟨this.1, this.2.1⟩) i

/-- a stretch -/
def trp (bs : List (Int × Int)) (i : Nat) : Int × Int × Int := (prev bs i, hiI bs i, prc bs i)
/-- one more stretch -/
def tst (L : List (Int × Int × Int)) (t : Int × Int × Int) : List (Int × Int × Int) :=
  if 0 < L.length ∧ (L.getD (L.length - 1) (0, 0, 0)).2.2 = t.2.2 then L.set (L.length - 1) ((L.getD (L.length - 1) (0, 0, 0)).1, t.2.1, t.2.2) else L ++ [t]
def tl (bs : List (Int × Int)) (pre : List Nat) : List (Int × Int × Int) := pre.foldl (fun L x => tst L (trp bs x)) []
theorem tl_snoc (bs : List (Int × Int)) (pre : List Nat) (x : Nat) : tl bs (pre ++ [x]) = tst (tl bs pre) (trp bs x) := by simp [tl]
theorem tst_len (L : List (Int × Int × Int)) (t : Int × Int × Int) : (tst L t).length ≤ L.length + 1 := by
  unfold tst
  split
  · rw [List.length_set]; omega
  · simp
theorem tl_len (bs : List (Int × Int)) (pre : List Nat) : (tl bs pre).length ≤ pre.length := by
  have key : ∀ (pre : List Nat) (L : List (Int × Int × Int)), (pre.foldl (fun L x => tst L (trp bs x)) L).length ≤ L.length + pre.length := by
    intro pre
    induction pre with
    | nil => intro L; simp
    | cons x pre ih => intro L; rw [List.foldl_cons, List.length_cons]; have := ih (tst L (trp bs x)); have := tst_len L (trp bs x); omega
  have := key pre []
  simpa [tl] using this
/-- the stretches of blocks -/
def tri (J : List (Int × Int)) : List (Int × Int × Int) := (List.range J.length).map (trp J)
theorem tri_length (J : List (Int × Int)) : (tri J).length = J.length := by simp [tri]
theorem tri_at (J : List (Int × Int)) (i : Nat) : (tri J)[i]? = if i < J.length then some (trp J i) else none := by
  unfold tri
  rw [List.getElem?_map]
  by_cases h : i < J.length
  · rw [if_pos h, List.getElem?_range h]; rfl
  · rw [if_neg h, List.getElem?_eq_none (by simp; omega)]; rfl
theorem tri_getD (J : List (Int × Int)) (i : Nat) (h : i < J.length) : (tri J).getD i (0, 0, 0) = trp J i := by
  rw [List.getD, tri_at, if_pos h]; rfl
theorem prev_set2 {J : List (Int × Int)} {m : Nat} {b : Int × Int} : ∀ i, i ≤ m → prev (J.set m b) i = prev J i
  | 0, _ => rfl
  | i + 1, h => by show up _ i = up _ i; unfold up; rw [getD_set', if_neg (by omega)]
theorem prev_snoc2 {J : List (Int × Int)} {b : Int × Int} : ∀ i, i ≤ J.length → prev (J ++ [b]) i = prev J i
  | 0, _ => rfl
  | i + 1, h => by show up _ i = up _ i; unfold up; rw [getD_snoc', if_pos (by omega)]
def hi1 (u : Int) : Int := if u = 0 then 9223372036854775807 else u
theorem tri_set (J : List (Int × Int)) (b : Int × Int) (h : 0 < J.length) : tri (J.set (J.length - 1) b) = (tri J).set (J.length - 1) (prev J (J.length - 1), hi1 b.1, b.2) := by
  apply List.ext_getElem?
  intro i
  rw [tri_at, List.length_set, List.getElem?_set, tri_length, tri_at]
  by_cases hi : i < J.length
  · rw [if_pos hi]
    by_cases hm : J.length - 1 = i
    · rw [if_pos hm, if_pos (by omega)]
      unfold trp hiI
      have e : up (J.set (J.length - 1) b) i = b.1 ∧ prc (J.set (J.length - 1) b) i = b.2 := by
        unfold up prc; rw [getD_set', if_pos ⟨hm.symm, by omega⟩]; exact ⟨rfl, rfl⟩
      rw [e.1, e.2, prev_set2 i (by omega), hm]; rfl
    · rw [if_neg hm, if_pos hi]
      unfold trp hiI
      have e : up (J.set (J.length - 1) b) i = up J i ∧ prc (J.set (J.length - 1) b) i = prc J i := by
        unfold up prc; rw [getD_set', if_neg (by omega)]; exact ⟨rfl, rfl⟩
      rw [e.1, e.2, prev_set2 i (by omega)]
  · rw [if_neg hi, if_neg (by omega), if_neg hi]
theorem tri_snoc (J : List (Int × Int)) (b : Int × Int) : tri (J ++ [b]) = tri J ++ [(prev J J.length, hi1 b.1, b.2)] := by
  apply List.ext_getElem?
  intro i
  rw [tri_at, List.length_append, List.length_singleton]
  by_cases hi : i < J.length
  · rw [if_pos (by omega), List.getElem?_append_left (by rw [tri_length]; exact hi), tri_at, if_pos hi]
    unfold trp hiI
    have e : up (J ++ [b]) i = up J i ∧ prc (J ++ [b]) i = prc J i := by
      unfold up prc; rw [getD_snoc', if_pos hi]; exact ⟨rfl, rfl⟩
    rw [e.1, e.2, prev_snoc2 i (by omega)]
  · rw [List.getElem?_append_right (by rw [tri_length]; omega), tri_length]
    by_cases hm : i = J.length
    · subst hm
      rw [if_pos (by omega), Nat.sub_self]
      unfold trp hiI
      have e : up (J ++ [b]) J.length = b.1 ∧ prc (J ++ [b]) J.length = b.2 := by
        unfold up prc; rw [getD_snoc', if_neg (by omega), if_pos rfl]; exact ⟨rfl, rfl⟩
      rw [e.1, e.2, prev_snoc2 _ (Nat.le_refl _)]; rfl
    · rw [if_neg (by omega), List.getElem?_eq_none (by simp; omega)]
/-- the code's list is the reference's -/
theorem tl_range (bs : List (Int × Int)) : ∀ k, tl bs (List.range k) = tri (jn bs k)
  | 0 => rfl
  | k + 1 => by
    rw [List.range_succ, tl_snoc, tl_range bs k]
    show tst (tri (jn bs k)) (trp bs k) = tri (jst (jn bs k) (bs.getD k (0, 0)))
    have hpr : prev (jn bs k) (jn bs k).length = prev bs k := by
      cases k with
      | zero => rfl
      | succ k =>
        have h1 := (jst_len (jn bs k) (bs.getD k (0, 0))).1
        have h2 := jst_last (jn bs k) (bs.getD k (0, 0))
        show prev (jst (jn bs k) (bs.getD k (0, 0))) (jst (jn bs k) (bs.getD k (0, 0))).length = up bs k
        obtain ⟨m, hm⟩ : ∃ m, (jst (jn bs k) (bs.getD k (0, 0))).length = m + 1 := ⟨_, (Nat.succ_pred_eq_of_pos h1).symm⟩
        rw [hm] at h2 ⊢
        show up _ m = _
        unfold up
        rw [Nat.add_sub_cancel] at h2
        rw [h2]
    generalize jn bs k = J at *
    unfold tst jst
    rw [tri_length]
    by_cases h0 : 0 < J.length
    · rw [tri_getD _ _ (by omega)]
      by_cases h1 : prc J (J.length - 1) = (bs.getD k (0, 0)).2
      · rw [if_pos ⟨h0, h1⟩, if_pos ⟨h0, h1⟩, tri_set _ _ h0]; rfl
      · rw [if_neg (fun h => h1 h.2), if_neg (fun h => h1 h.2), tri_snoc, hpr]; rfl
    · rw [if_neg (fun h => h0 h.1), if_neg (fun h => h0 h.1), tri_snoc, hpr]; rfl
theorem ext_getD {α : Type} {l m : List α} (d : α) (hl : l.length = m.length) (h : ∀ i, i < l.length → l.getD i d = m.getD i d) : l = m := by
  apply List.ext_getElem? 
  intro i
  by_cases hi : i < l.length
  · have := h i hi
    rw [List.getD, List.getD, List.getElem?_eq_getElem hi, List.getElem?_eq_getElem (by omega)] at this
    rw [List.getElem?_eq_getElem hi, List.getElem?_eq_getElem (by omega)]
    exact congrArg some this
  · rw [List.getElem?_eq_none (by omega), List.getElem?_eq_none (by omega)]
theorem tri_inj {J K : List (Int × Int)} (hJ : ∀ i, 0 ≤ up J i ∧ up J i ≤ 1099511627776) (hK : ∀ i, 0 ≤ up K i ∧ up K i ≤ 1099511627776) : tri J = tri K ↔ J = K := by
  constructor
  · intro h
    have hl : J.length = K.length := by have := congrArg List.length h; rwa [tri_length, tri_length] at this
    refine ext_getD (0, 0) hl (fun i hi => ?_)
    have h2 : trp J i = trp K i := by rw [← tri_getD J i hi, ← tri_getD K i (by omega), h]
    unfold trp hiI at h2
    have e1 : (if up J i = 0 then (9223372036854775807 : Int) else up J i) = if up K i = 0 then 9223372036854775807 else up K i := congrArg (fun t => t.2.1) h2
    have e2 : prc J i = prc K i := congrArg (fun t => t.2.2) h2
    have e3 : up J i = up K i := by
      have := hJ i
      have := hK i
      split at e1 <;> split at e1 <;> omega
    exact Prod.ext e3 e2
  · intro h; rw [h]
/-- two tariffs are equivalent -/
def EqP (st : Int) (bs : List (Int × Int)) (su : Int) (cs : List (Int × Int)) : Prop := tE st bs = 0 ∧ tE su cs = 0 ∧ st = su ∧ jn bs bs.length = jn cs cs.length
end Go.Proofs.Ytdcnkebcpaelpaa.T14
/- Layer 14: the reference's Joined. -/
namespace Go.Proofs.Ytdcnkebcpaelpaa.T14
open Go.RowKit Go.Sort C6

/-- what Joined gives -/
def JnPost (J : List (Int × Int)) (w : World) (e : Ending) (w' : World) : Prop :=
  ∃ (a : Option Addr) (c : Nat), e = .returned (.slice a J.length c) ∧ w'.ownsRow w.heap.size 51 2 (.slice a J.length c) J.length (bkv J) ∧ Below w.heap.size w w'
theorem jst_set {J : List (Int × Int)} {k : Nat} {b : Int × Int} (hl : J.length = k + 1) (h : prc J k = b.2) : jst J b = J.set k b := by
  unfold jst; rw [hl, Nat.add_sub_cancel, if_pos ⟨by omega, h⟩]
theorem jst_app {J : List (Int × Int)} {k : Nat} {b : Int × Int} (hl : J.length = k + 1) (h : ¬ prc J k = b.2) : jst J b = J ++ [b] := by
  unfold jst; rw [hl, Nat.add_sub_cancel, if_neg (fun e => h e.2)]
theorem jst_nil {J : List (Int × Int)} {b : Int × Int} (hl : J.length = 0) : jst J b = J ++ [b] := by
  unfold jst; rw [if_neg (by omega)]

end Go.Proofs.Ytdcnkebcpaelpaa.T14
/- Layer 14: tariff.joined: a row of stretches, those of one price in succession as one. -/
namespace Go.Proofs.Ytdcnkebcpaelpaa.T14
open Go.RowKit Go.Shelf C6
attribute [local go_sem] Oper.semAt_some

def encT (t : Int × Int × Int) : List Value := [.int .i64 t.1, .int .i64 t.2.1, .int .i64 t.2.2]
def tcv (L : List (Int × Int × Int)) : List Value := L.flatMap encT
theorem tcv_cons (x : Int × Int × Int) (l : List (Int × Int × Int)) : tcv (x :: l) = .int .i64 x.1 :: .int .i64 x.2.1 :: .int .i64 x.2.2 :: tcv l := rfl
theorem tcv_append (l m : List (Int × Int × Int)) : tcv (l ++ m) = tcv l ++ tcv m := by simp [tcv]
theorem tcv_length (l : List (Int × Int × Int)) : (tcv l).length = l.length * 3 := by
  induction l with
  | nil => rfl
  | cons x l ih => rw [tcv_cons, List.length_cons, List.length_cons, List.length_cons, List.length_cons, ih]; omega
theorem tcv_at (l : List (Int × Int × Int)) (i : Nat) (hi : i < l.length) : (tcv l)[i * 3]? = some (.int .i64 (l.getD i (0, 0, 0)).1) ∧ (tcv l)[i * 3 + 1]? = some (.int .i64 (l.getD i (0, 0, 0)).2.1) ∧ (tcv l)[i * 3 + 2]? = some (.int .i64 (l.getD i (0, 0, 0)).2.2) := by
  induction l generalizing i with
  | nil => simp at hi
  | cons x l ih =>
    cases i with
    | zero => exact ⟨rfl, rfl, rfl⟩
    | succ i =>
      have h := ih i (by simpa using hi)
      have e1 : (i + 1) * 3 = i * 3 + 1 + 1 + 1 := by omega
      rw [e1, tcv_cons]
      simpa [List.getD] using h
theorem tcv_set (l : List (Int × Int × Int)) (r : Nat) (hr : r < l.length) (x : Int) : (tcv l).set (r * 3 + 1) (.int .i64 x) = tcv (l.set r ((l.getD r (0, 0, 0)).1, x, (l.getD r (0, 0, 0)).2.2)) := by
  induction l generalizing r with
  | nil => simp at hr
  | cons a l ih =>
    cases r with
    | zero => simp [tcv, encT]
    | succ r =>
      have := ih r (by simpa using hr)
      have e : (a :: l).getD (r + 1) (0, 0, 0) = l.getD r (0, 0, 0) := by simp [List.getD]
      rw [e, List.set_cons_succ, tcv_cons, tcv_cons, show (r + 1) * 3 + 1 = (r * 3 + 1) + 1 + 1 + 1 by omega]
      simp only [List.set_cons_succ]
      rw [this]
theorem tcv_one' (l : List (Int × Int × Int)) : ∀ u ∈ tcv l, u.oneCell' = true := by
  intro u hu
  unfold tcv at hu
  obtain ⟨x, _, hx⟩ := List.mem_flatMap.1 hu
  simp [encT] at hx
  rcases hx with rfl | rfl | rfl <;> rfl
theorem infoSt : (Try.prog.info? 74).map (fun i => (i.zero, i.size, i.bytes)) = some (some (.agg #[.int .i64 0, .int .i64 0, .int .i64 0]), 3, 24) := by kernel_rfl
theorem three_cell (w : World) (u v x : Value) (t : TypeId) : ∀ j y, [u, v, x][j]? = some y → (w.alloc (.cells #[u, v, x] t)).cell? ((⟨w.heap.size, 0, none⟩ : Addr).add j) = some y := by
  intro j y hj
  rw [Addr.add_lit]
  match j with
  | 0 => cases hj; exact World.cell?_alloc_mark w _ _ (0, 0) 0
  | 1 => cases hj; exact World.cell?_alloc_mark w _ _ (0, 0) 1
  | 2 => cases hj; exact World.cell?_alloc_mark w _ _ (0, 0) 2
  | j + 3 => cases hj
/-- the list's box, and its row behind it -/
def JB (W : World) (g : Nat) (L : List (Int × Int × Int)) : Prop :=
  ∃ (a : Option Addr) (c : Nat), W.heap[g]? = some (.cells #[.slice a L.length c] 72 (0, 0)) ∧ W.ownsRow (g + 1) 74 3 (.slice a L.length c) L.length (tcv L)
theorem row_cells {w : World} {base n size : Nat} {e : TypeId} {v : Value} {xs : List Value} (h : w.ownsRow base e size v n xs) {r : Nat} (hr : v.ownBlock = some r) : base ≤ r ∧ ∃ o : Obj, w.heap[r]? = some o ∧ o.isCells = true := by
  rcases h.2 with ⟨e, _⟩ | ⟨b, cap, cur, e, hb, ho, _⟩
  · rw [e] at hr; cases hr
  · rw [e] at hr; cases hr; exact ⟨hb, _, ho, rfl⟩
theorem own_grown {w w' : World} {base n size : Nat} {e : TypeId} {v : Value} {xs : List Value} (h : w.ownsRow base e size v n xs) {row : Option Nat} (k : w.grownBy w' row) (hr : ∀ r, row = some r → ∃ o : Obj, w.heap[r]? = some o ∧ o.isCells = false) : w'.ownsRow base e size v n xs := by
  refine h.kept k ?_
  cases hv : v.ownBlock with
  | none => exact .inl rfl
  | some b =>
    refine .inr (fun e => ?_)
    obtain ⟨o, ho, hn⟩ := hr b e.symm
    obtain ⟨_, o2, ho2, hn2⟩ := row_cells h hv
    rw [ho] at ho2; cases ho2; rw [hn] at hn2; cases hn2
theorem JB.grown {w w' : World} {g : Nat} {L : List (Int × Int × Int)} (h : JB w g L) {row : Option Nat} (k : w.grownBy w' row) (hr : ∀ r, row = some r → ∃ o : Obj, w.heap[r]? = some o ∧ o.isCells = false) : JB w' g L := by
  obtain ⟨a, c, h1, h2⟩ := h
  exact ⟨a, c, cells_grown h1 k hr, own_grown h2 k hr⟩
theorem JB.below {w w' : World} {g : Nat} {L : List (Int × Int × Int)} (h : JB w g L) (k : Below w.heap.size w w') : JB w' g L := by
  obtain ⟨a, c, h1, h2⟩ := h
  exact ⟨a, c, carry h1 k, own_below h2 k⟩
theorem keeps_row {B : Nat} {w w' : World} {row : Option Nat} (k : w.grownBy w' row) (hr : ∀ r, row = some r → ∃ o : Obj, w.heap[r]? = some o ∧ o.isCells = true) : KeepsFrom B w w' :=
  ⟨k.size, fun i o _ ho hn => (k.block i (Array.getElem?_eq_some_iff.1 ho).1 (fun e => by
    obtain ⟨o2, ho2, hn2⟩ := hr i e.symm
    rw [ho] at ho2; cases ho2; rw [hn] at hn2; cases hn2)).trans ho⟩
/-- one more stretch at the end -/
theorem JB.push {w w2 w3 : World} {g c c3 : Nat} {a a3 : Option Addr} {L M : List (Int × Int × Int)} {n B : Nat} (hb : w.heap[g]? = some (.cells #[.slice a n c] 72 (0, 0))) (ho : w.ownsRow (g + 1) 74 3 (.slice a n c) n (tcv L))
    (h2 : Below w.heap.size w w2) (hg : w2.grownBy w3 (Value.slice a n c).ownBlock) (hM : M.length = n + 1) (h3 : w3.ownsRow (g + 1) 74 3 (.slice a3 (n + 1) c3) (n + 1) (tcv M)) :
    (w3.cell? ⟨g, 0, none⟩ = some (.slice a n c) ∧ w3.frozen? ⟨g, 0, none⟩ = false) ∧ JB (w3.setCell ⟨g, 0, none⟩ (.slice a3 (n + 1) c3)) g M ∧ Below g w (w3.setCell ⟨g, 0, none⟩ (.slice a3 (n + 1) c3)) ∧ KeepsFrom B w (w3.setCell ⟨g, 0, none⟩ (.slice a3 (n + 1) c3)) := by
  have hgs : g < w.heap.size := (Array.getElem?_eq_some_iff.1 hb).1
  have hb2 : w2.heap[g]? = _ := carry hb h2
  have ho2 := own_below ho h2
  have hne : ∀ r, (Value.slice a n c).ownBlock = some r → g + 1 ≤ r := fun r e => (row_cells ho2 e).1
  have hb3 := (hg.block g (Array.getElem?_eq_some_iff.1 hb2).1 (fun e => by have := hne g e.symm; omega)).trans hb2
  have hs := gb_set w3 g 0 (.slice a3 (n + 1) c3)
  refine ⟨⟨by simp [World.cell?, hb3], by simp [World.frozen?, hb3]⟩, ⟨a3, c3, ?_, ?_⟩, ?_, ?_⟩
  · rw [hM]; simp [World.setCell, Array.getElem?_modify, hb3]
  · rw [hM]; exact h3.kept hs (rowne h3 (Nat.lt_succ_self g))
  · exact (((h2.mono (Nat.le_of_lt hgs)).grown hg (by have := h2.size; omega) (fun r e => by have := hne r e; omega))).setCell (p := ⟨g, 0, none⟩) (Nat.le_refl _) _
  · exact ((keeps_below h2).trans (keeps_row hg (fun r e => (row_cells ho2 e).2))).trans ((KeepsOthers.setCell _ _ _).from _)
/-- the last stretch ends elsewhere -/
theorem JB.mark {w : World} {g c r k B : Nat} {L : List (Int × Int × Int)} {n : Nat} (hb : w.heap[g]? = some (.cells #[.slice (some ⟨r, 0, none⟩) n c] 72 (0, 0))) (ho : w.ownsRow (g + 1) 74 3 (.slice (some ⟨r, 0, none⟩) n c) n (tcv L)) (hL : L.length = n) (hk : k < n) (x : Int) :
    JB (w.setCell ⟨r, k * 3 + 1, none⟩ (.int .i64 x)) g (L.set k ((L.getD k (0, 0, 0)).1, x, (L.getD k (0, 0, 0)).2.2)) ∧ Below g w (w.setCell ⟨r, k * 3 + 1, none⟩ (.int .i64 x)) ∧ KeepsFrom B w (w.setCell ⟨r, k * 3 + 1, none⟩ (.int .i64 x)) := by
  obtain ⟨h1, h2⟩ := ho.stored (k * 3 + 1) (.int .i64 x)
  have hr : g + 1 ≤ r := (row_cells ho rfl).1
  rw [tcv_set L k (by omega) x] at h1
  refine ⟨⟨some ⟨r, 0, none⟩, c, ?_, ?_⟩, ?_, ?_⟩
  · rw [List.length_set, hL]; exact (h2.block g (Array.getElem?_eq_some_iff.1 hb).1 (fun e => by have := Option.some.inj e; omega)).trans hb
  · rw [List.length_set, hL]; exact h1
  · exact (Below.refl g w).setCell (p := ⟨r, k * 3 + 1, none⟩) (by show g ≤ r; omega) _
  · exact (KeepsOthers.setCell _ _ _).from _
theorem tst_set {L : List (Int × Int × Int)} {k : Nat} {t : Int × Int × Int} (hl : L.length = k + 1) (h : (L.getD k (0, 0, 0)).2.2 = t.2.2) : tst L t = L.set k ((L.getD k (0, 0, 0)).1, t.2.1, (L.getD k (0, 0, 0)).2.2) := by
  unfold tst; rw [hl, Nat.add_sub_cancel, if_pos ⟨by omega, h⟩, h]
theorem tst_app {L : List (Int × Int × Int)} {k : Nat} {t : Int × Int × Int} (hl : L.length = k + 1) (h : ¬ (L.getD k (0, 0, 0)).2.2 = t.2.2) : tst L t = L ++ [t] := by
  unfold tst; rw [hl, Nat.add_sub_cancel, if_neg (fun e => h e.2)]
theorem tst_nil {L : List (Int × Int × Int)} {t : Int × Int × Int} (hl : L.length = 0) : tst L t = L ++ [t] := by
  unfold tst; rw [if_neg (by omega)]
/-- what joined gives -/
def JoPost (J : List (Int × Int)) (w : World) (e : Ending) (w' : World) : Prop :=
  ∃ (a : Option Addr) (c : Nat), e = .returned (.slice a J.length c) ∧ w'.ownsRow w.heap.size 74 3 (.slice a J.length c) J.length (tcv (tri J)) ∧ Below w.heap.size w w'

set_option maxHeartbeats 16000000 in
set_option maxRecDepth 100000 in
theorem joined_v (st : Int) (ao : Option Addr) (cap : Nat) (bs : List (Int × Int)) (w : World) (h : RdK w ao cap bs) (hok : OkB bs) :
    Calls Try.prog 41 #[.agg #[.int .i64 st, .slice ao bs.length cap]] w (JoPost (jn bs bs.length) w) := by
  obtain ⟨i0, hi0, hz0, hz1, hz2⟩ := info_parts infoSt
  obtain ⟨n, hn⟩ : ∃ n, n = bs.length := ⟨_, rfl⟩
  rw [← hn]
  obtain ⟨W1, hW1⟩ : ∃ W, W = w.alloc (.cells #[.int .i64 st, .slice ao n cap] 24) := ⟨_, rfl⟩
  obtain ⟨W2, hW2⟩ : ∃ W, W = W1.alloc (.cells #[.slice none 0 0] 72) := ⟨_, rfl⟩
  have s1 : W1.heap.size = w.heap.size + 1 := by rw [hW1]; simp
  have s2 : W2.heap.size = w.heap.size + 1 + 1 := by rw [hW2]; simp [s1]
  have b1 : Below w.heap.size w W1 := by rw [hW1]; exact below_new w _
  have b2 : Below W1.heap.size W1 W2 := by rw [hW2]; exact below_new W1 _
  have t1 : TfBox W1 w.heap.size st ao n cap := by rw [hW1]; exact TfBox.new w _ _ _ _
  have t2 : TfBox W2 w.heap.size st ao n cap := carry t1 b2
  have g2 : W2.heap[w.heap.size + 1]? = some (.cells #[.slice none 0 0] 72 (0, 0)) := by rw [hW2, ← s1]; exact heap_alloc_new _ _
  have b02 : Below w.heap.size w W2 := b1.trans (b2.mono b1.size)
  obtain ⟨u0, u1⟩ := t2.cells
  obtain ⟨W6, hW6⟩ : ∃ W, W = W2.alloc (.cells #[.int .i64 st, .slice ao n cap] 24) := ⟨_, rfl⟩
  obtain ⟨g6, hg6⟩ : ∃ g6, g6 = W2.heap.size := ⟨_, rfl⟩
  obtain ⟨g, hg⟩ : ∃ g, g = w.heap.size + 1 := ⟨_, rfl⟩
  have b6 : Below W2.heap.size W2 W6 := by rw [hW6]; exact below_new W2 _
  have TB : Hid (TfBox W6 g6 st ao n cap) := by rw [hW6, hg6]; exact TfBox.new W2 _ _ _ _
  have HS6 : Hid (g < W6.heap.size) := by have := b6.size; unfold Hid; omega
  have HG6 : Hid (W6.heap[g]? = some (.cells #[.slice none 0 0] 72 (0, 0))) := by rw [hg]; exact carry g2 b6
  have BW6 : Hid (Below w.heap.size w W6) := b02.trans (b6.mono b02.size)
  have K6 : Hid (RdK W6 ao cap bs) := h.below BW6.out
  have L6 : Hid (offB ao bs (fun b => b < g)) := fun h0 b o e => by have := h.lt h0 b o e; show b < g; omega
  have HMR : Hid (w.heap.size < g) := by unfold Hid; omega
  have HGG := Lib.hid hg
  have HGS := Lib.hid hg6
  have HN := Lib.hid hn
  have HOK : Hid (OkB bs) := hok
  have HU : Hid (W2 = (w.alloc (.cells #[.int .i64 st, .slice ao n cap] 24)).alloc (.cells #[.slice none 0 0] 72)) := by unfold Hid; rw [hW2, hW1]
  have HV := Lib.hid hW6
  have H1 := Lib.hid s1
  clear h hok hn s1 s2 b1 b2 b02 t1 t2 g2 b6 hW6 hg6 hg
  refine (callsIn_wide (n := 9)).1 ?_
  refine callsIn_of_wp_marks Try.func41 rfl trivial ?_ rfl
  simp only [Try.ntmps41, List.size_toArray, List.length_cons, List.length_nil, Nat.reduceAdd, Nat.reduceSub, Array.replicate_succ, Array.replicate_zero, List.push_toArray, List.append_toArray, List.nil_append, List.cons_append]
  rw [hW2, hW1] at u0 u1
  clear hW1 hW2
  gi_wp2
  rw [← HU.out]
  refine ⟨trivial, (callsIn_wide.2 (stretches_v st ao n cap _)).mono ?_⟩
  rintro e W7 ⟨rfl, hW7⟩
  rw [← HV.out] at hW7
  subst hW7
  gi_wp2
  try rw [← HGS.out]
  try rw [← HGG.out]
  clear HU HV HGS HGG H1 u0 u1
  refine wpIn_rangeFunc_ownH rfl (by omega) (gf := 75) (lb := #[.pointer (some ⟨g6, 0, none⟩)]) rfl trivial (enters_of Try.func75 (by kernel_rfl) rfl)
    (stretches_stops 8 g6 g st ao cap bs HOK.out W7 (Nat.le_of_lt HS6.out) (by rw [← HN.out]; exact TB.out) K6.out L6.out) belowK_t (belowK_b (Nat.le_of_lt HS6.out)) (Below.refl _ _) (fun _ => rfl)
    (fun pre W => JB W g (tl bs pre) ∧ Below g W7 W)
    (fun c pre W => False)
    (fun s X Y row hs hg hr => ⟨hs.1.grown hg (fun r e => (hr r e).2), ownFrom_below (β := Unit) (Nat.le_of_lt HS6.out) (Nat.le_of_lt HS6.out) () X Y row hs.2 hg hr⟩)
    (fun c s X Y row hs hg hr => hs)
    ⟨⟨none, 0, HG6.out, World.ownsRow_nil _ _ _ _⟩, Below.refl _ _⟩
    (fun x a' W => ∃ B, g < B ∧ StBox W B bs x ∧ a' = { tmps := #[.agg #[.int .i64 st, .slice ao n cap], .pointer (some ⟨w.heap.size, 0, none⟩), .slice none 0 0, .pointer (some ⟨g, 0, none⟩), .pointer (some ⟨B, 0, none⟩), undef, .agg #[.int .i64 st, .slice ao n cap], .func (.func 75) #[] #[.pointer (some ⟨g6, 0, none⟩)], stv bs x, undef, undef, undef, undef, undef, undef, undef, undef, undef, undef, undef, undef, undef, undef, undef, undef, undef, undef, undef, undef, undef, undef, undef, undef, undef, undef], defers := [] })
    (fun x a' _ X Y row hs hg hr => (by obtain ⟨B, h1, h2, h3⟩ := hs; exact ⟨B, h1, cells_grown h2 hg (fun r e => (hr r e).2), h3⟩)) ?assign ?body ?done ?stop
  case assign =>
    intro l pre x W K hi hK
    dsimp only [stv]
    gi_wp2
    have hgW : g ≤ W.heap.size := Nat.le_trans (Nat.le_of_lt HS6.out) hi.2.size
    exact hK _ _ (keeps_below (below_new W _)) ((below_new W _).mono hgW) ⟨hi.1.below (below_new W _), hi.2.trans ((below_new W _).mono hgW)⟩ ⟨W.heap.size, Nat.lt_of_lt_of_le HS6.out hi.2.size, World.alloc_heap_new W _, rfl⟩
  case body =>
    rintro l pre x a' W hl ⟨r, hr⟩ ⟨⟨a, c, hbx, ho⟩, hbl⟩ ⟨B, hgB, hst, rfl⟩ hlt
    have hlen := tl_len bs pre
    have hn8 := HOK.out.len
    obtain ⟨L, hLe⟩ : ∃ L, L = tl bs pre := ⟨_, rfl⟩
    rw [← hLe] at hbx ho hlen
    obtain ⟨m, hm⟩ : ∃ m, m = L.length := ⟨_, rfl⟩
    rw [← hm] at hbx ho
    have hm8 : m ≤ 8 := by omega
    obtain ⟨q, hqe⟩ : ∃ q, q = prev bs x := ⟨_, rfl⟩
    obtain ⟨hi, hhi⟩ : ∃ q, q = hiI bs x := ⟨_, rfl⟩
    obtain ⟨p, hp⟩ : ∃ q, q = prc bs x := ⟨_, rfl⟩
    have HSN : Hid (tl bs (pre ++ [x]) = tst L (q, hi, p)) := by unfold Hid; rw [tl_snoc, ← hLe, hqe, hhi, hp]; rfl
    have z0 : W.cell? ⟨g, 0, none⟩ = some (.slice a m c) := by simp [World.cell?, hbx]
    have zf : W.frozen? ⟨g, 0, none⟩ = false := by simp [World.frozen?, hbx]
    obtain ⟨k0, k1, k2⟩ := hst.cells
    rw [← hqe] at k0
    rw [← hhi] at k1
    rw [← hp] at k2
    have XG : Hid (W.heap[g]? = some (.cells #[.slice a m c] 72 (0, 0))) := hbx
    have HO := Lib.hid ho
    have HGW : Hid (g < W.heap.size) := Nat.lt_of_lt_of_le HS6.out hbl.size
    have HBW : Hid (B < W.heap.size) := World.block_lt_of_cell? _ _ k0
    have HLJ : Hid (L.length = m) := hm.symm
    have HBL := Lib.hid hbl
    clear hbx ho hbl hst hm hLe hqe hhi hp hl hr hlt hlen hn8 hgB
    by_cases hm0 : m = 0
    · subst hm0
      gi_wp2
      refine wp_region_round (by kernel_rfl) (by kernel_rfl) (by rintro ⟨_, _, h⟩; exact h) ?_
      refine wpAny_of_held (S := fun w' => Below W.heap.size W w') _ _ _ _ ?_
      have hH : Below W.heap.size W W.drew := (Below.refl _ _).drew
      change wpAnyH _ _ _ _ _ _ _ _ W.drew
      refine wpAnyH_take (i := 0) (v := (.int .i64 (-1))) rfl (by kernel_rfl) (by kernel_rfl) (by kernel_rfl) (fun _ _ _ h => h) (Or.inl ⟨by kernel_rfl, ?_⟩) hH ?_
      · intro w1 hB
        go_simp
      change wpAnyH _ _ _ _ _ _ _ (Act.put _ (some 12) _) _
      try simp only [Act.put, List.setIfInBounds_toArray, List.set_cons_zero, List.set_cons_succ]
      refine wpAnyH_take (i := 1) (v := (.bool false)) rfl (by kernel_rfl) (by kernel_rfl) (by kernel_rfl) (fun _ _ _ h => h) (Or.inl ⟨by kernel_rfl, ?_⟩) hH ?_
      · intro w1 hB
        go_simp
      change wpAnyH _ _ _ _ _ _ _ (Act.put _ (some 13) _) _
      try simp only [Act.put, List.setIfInBounds_toArray, List.set_cons_zero, List.set_cons_succ]
      refine wpAnyH_take (i := 2) (v := (.bool false)) rfl (by kernel_rfl) (by kernel_rfl) (by kernel_rfl) (fun _ _ _ h => h) (Or.inl ⟨by kernel_rfl, ?_⟩) hH ?_
      · intro w1 hB
        go_simp
      change wpAnyH _ _ _ _ _ _ _ (Act.put _ (some 14) _) _
      try simp only [Act.put, List.setIfInBounds_toArray, List.set_cons_zero, List.set_cons_succ]
      refine wpAnyH_take (i := 3) (v := undef) rfl (by kernel_rfl) (by kernel_rfl) (by kernel_rfl) (fun _ _ _ h => h) (Or.inr ⟨by kernel_rfl, rfl⟩) hH ?_
      change wpAnyH _ _ _ _ _ _ _ (Act.put _ (some 15) _) _
      try simp only [Act.put, List.setIfInBounds_toArray, List.set_cons_zero, List.set_cons_succ]
      refine wpAnyH_take (i := 4) (v := undef) rfl (by kernel_rfl) (by kernel_rfl) (by kernel_rfl) (fun _ _ _ h => h) (Or.inr ⟨by kernel_rfl, rfl⟩) hH ?_
      change wpAnyH _ _ _ _ _ _ _ (Act.put _ (some 16) _) _
      try simp only [Act.put, List.setIfInBounds_toArray, List.set_cons_zero, List.set_cons_succ]
      refine wpAnyH_take (i := 5) (v := undef) rfl (by kernel_rfl) (by kernel_rfl) (by kernel_rfl) (fun _ _ _ h => h) (Or.inr ⟨by kernel_rfl, rfl⟩) hH ?_
      change wpAnyH _ _ _ _ _ _ _ (Act.put _ (some 17) _) _
      try simp only [Act.put, List.setIfInBounds_toArray, List.set_cons_zero, List.set_cons_succ]
      refine wpAnyH_take (i := 6) (v := undef) rfl (by kernel_rfl) (by kernel_rfl) (by kernel_rfl) (fun _ _ _ h => h) (Or.inr ⟨by kernel_rfl, rfl⟩) hH ?_
      change wpAnyH _ _ _ _ _ _ _ (Act.put _ (some 18) _) _
      try simp only [Act.put, List.setIfInBounds_toArray, List.set_cons_zero, List.set_cons_succ]
      refine wpAnyH_take (i := 7) (v := undef) rfl (by kernel_rfl) (by kernel_rfl) (by kernel_rfl) (fun _ _ _ h => h) (Or.inr ⟨by kernel_rfl, rfl⟩) hH ?_
      change wpAnyH _ _ _ _ _ _ _ (Act.put _ (some 19) _) _
      try simp only [Act.put, List.setIfInBounds_toArray, List.set_cons_zero, List.set_cons_succ]
      refine wpAnyH_take (i := 8) (v := undef) rfl (by kernel_rfl) (by kernel_rfl) (by kernel_rfl) (fun _ _ _ h => h) (Or.inr ⟨by kernel_rfl, rfl⟩) hH ?_
      change wpAnyH _ _ _ _ _ _ _ (Act.put _ (some 20) _) _
      try simp only [Act.put, List.setIfInBounds_toArray, List.set_cons_zero, List.set_cons_succ]
      refine wpAnyH_take (i := 9) (v := undef) rfl (by kernel_rfl) (by kernel_rfl) (by kernel_rfl) (fun _ _ _ h => h) (Or.inr ⟨by kernel_rfl, rfl⟩) hH ?_
      change wpAnyH _ _ _ _ _ _ _ (Act.put _ (some 21) _) _
      try simp only [Act.put, List.setIfInBounds_toArray, List.set_cons_zero, List.set_cons_succ]
      refine wpAnyH_take (i := 10) (v := undef) rfl (by kernel_rfl) (by kernel_rfl) (by kernel_rfl) (fun _ _ _ h => h) (Or.inr ⟨by kernel_rfl, rfl⟩) hH ?_
      change wpAnyH _ _ _ _ _ _ _ (Act.put _ (some 22) _) _
      try simp only [Act.put, List.setIfInBounds_toArray, List.set_cons_zero, List.set_cons_succ]
      refine wpAnyH_take (i := 11) (v := (.bool false)) rfl (by kernel_rfl) (by kernel_rfl) (by kernel_rfl) (fun _ _ _ h => h) (Or.inl ⟨by kernel_rfl, ?_⟩) hH ?_
      · intro w1 hB
        go_simp
      change wpAnyH _ _ _ _ _ _ _ (Act.put _ (some 23) _) _
      try simp only [Act.put, List.setIfInBounds_toArray, List.set_cons_zero, List.set_cons_succ]
      refine wpAnyH_done (by kernel_rfl) ?_ _
      gi_wp2_with (gi_at_builtin; refine wpListIn_append_own _ rfl _ _ 72 rfl (g + 1) 74 i0 (.agg #[.int .i64 0, .int .i64 0, .int .i64 0]) 3 24 Try.underlying72 hi0 hz0 hz1 hz2 rfl (by omega) _ _ _ rfl (HO.out.alloc _) ⟨W.heap.size, 0, none⟩ 1 1 [.int .i64 q, .int .i64 hi, .int .i64 p] rfl rfl (three_cell _ _ _ _ _) (tcv_one' [(q, hi, p)]) (by unfold maxLen; omega) (by omega) (by have := HGW.out; simp; omega) ?_; intro v3 w3 hown3 hgr3 _; obtain ⟨a3, c3, rfl⟩ := of_row_k hown3; obtain ⟨hx3, hJ3, hB3, hK3⟩ := JB.push (B := W7.heap.size) (M := L ++ [(q, hi, p)]) XG.out HO.out (below_new W _).drew hgr3 (by rw [List.length_append, HLJ.out]; rfl) (by rw [tcv_append]; exact hown3); have y0 := hx3.1; have y1 := hx3.2; replace hJ3 := Lib.hid hJ3; replace hB3 := Lib.hid hB3; replace hK3 := Lib.hid hK3; clear hx3 hown3 hgr3)
      exact ⟨hK3.out, hB3.out, by rw [HSN.out, tst_nil HLJ.out]; exact hJ3.out, HBL.out.trans hB3.out⟩
    · obtain ⟨k, rfl⟩ : ∃ k, m = k + 1 := ⟨m - 1, by omega⟩
      obtain ⟨r, hr⟩ : ∃ r, a = some ⟨r, 0, none⟩ := by
        obtain ⟨g8, cap8, e⟩ := ownsRow_succ HO.out
        cases e; exact ⟨g8, rfl⟩
      subst hr
      obtain ⟨-, q1, q2⟩ := tcv_at L k (by have := HLJ.out; omega)
      have e1 : W.cell? ⟨r, k * 3 + 1, none⟩ = some (.int .i64 (L.getD k (0, 0, 0)).2.1) := (HO.out.cellAt (k * 3 + 1) (by omega)).trans q1
      have e2 : W.cell? ⟨r, k * 3 + 2, none⟩ = some (.int .i64 (L.getD k (0, 0, 0)).2.2) := (HO.out.cellAt (k * 3 + 2) (by omega)).trans q2
      have ef : W.frozen? ⟨r, k * 3 + 1, none⟩ = false := HO.out.frozenAt _
      obtain ⟨ul, hul⟩ : ∃ x, x = (L.getD k (0, 0, 0)).2.1 := ⟨_, rfl⟩
      obtain ⟨pl, hpl⟩ : ∃ x, x = (L.getD k (0, 0, 0)).2.2 := ⟨_, rfl⟩
      rw [← hul] at e1
      rw [← hpl] at e2
      have HPL : Hid ((L.getD k (0, 0, 0)).2.2 = pl) := hpl.symm
      have HRW : Hid (r < W.heap.size) := World.block_lt_of_cell? _ _ e1
      have dk : decide ((0 : Int) ≤ (k : Int)) = true := decide_eq_true (by omega)
      have hwk : IntKind.i64.wrap (k : Int) = (k : Int) := wrap_mid (by omega) (by omega)
      have hkk : ¬ ((k : Int) + 1 ≤ (k : Int)) := by omega
      have hkc : k + 1 ≤ c := by
        rcases HO.out.2 with ⟨e, h0⟩ | ⟨_, cap', _, e, _, _, hn, _⟩
        · omega
        · cases e; exact hn
      clear hul hpl hm0 q1 q2
      by_cases hpe : pl = p
      · have d0 : (pl == p) = true := beq_iff_eq.2 hpe
        have HPE := Lib.hid hpe
        clear hpe
        gi_wp2
        refine wp_region_round (by kernel_rfl) (by kernel_rfl) (by rintro ⟨_, _, h⟩; exact h) ?_
        refine wpAny_of_held (S := fun w' => Below W.heap.size W w') _ _ _ _ ?_
        have hH : Below W.heap.size W W.drew := (Below.refl _ _).drew
        change wpAnyH _ _ _ _ _ _ _ _ W.drew
        refine wpAnyH_take (i := 0) (v := (.int .i64 (k : Int))) rfl (by kernel_rfl) (by kernel_rfl) (by kernel_rfl) (fun _ _ _ h => h) (Or.inl ⟨by kernel_rfl, ?_⟩) hH ?_
        · intro w1 hB
          go_simp
        change wpAnyH _ _ _ _ _ _ _ (Act.put _ (some 12) _) _
        try simp only [Act.put, List.setIfInBounds_toArray, List.set_cons_zero, List.set_cons_succ]
        refine wpAnyH_take (i := 1) (v := (.bool true)) rfl (by kernel_rfl) (by kernel_rfl) (by kernel_rfl) (fun _ _ _ h => h) (Or.inl ⟨by kernel_rfl, ?_⟩) hH ?_
        · intro w1 hB
          go_simp
        change wpAnyH _ _ _ _ _ _ _ (Act.put _ (some 13) _) _
        try simp only [Act.put, List.setIfInBounds_toArray, List.set_cons_zero, List.set_cons_succ]
        refine wpAnyH_take (i := 2) (v := (.bool true)) rfl (by kernel_rfl) (by kernel_rfl) (by kernel_rfl) (fun _ _ _ h => h) (Or.inl ⟨by kernel_rfl, ?_⟩) hH ?_
        · intro w1 hB
          go_simp
        change wpAnyH _ _ _ _ _ _ _ (Act.put _ (some 14) _) _
        try simp only [Act.put, List.setIfInBounds_toArray, List.set_cons_zero, List.set_cons_succ]
        refine wpAnyH_take (i := 3) (v := (.slice (some ⟨r, 0, none⟩) (k + 1) c)) rfl (by kernel_rfl) (by kernel_rfl) (by kernel_rfl) (fun _ _ _ h => h) (Or.inl ⟨by kernel_rfl, ?_⟩) hH ?_
        · intro w1 hB
          have r0 : w1.cell? ⟨g, 0, none⟩ = some (.slice (some ⟨r, 0, none⟩) (k + 1) c) := (hB.cell (p := ⟨g, 0, none⟩) HGW.out).trans z0
          have r1 : w1.cell? ⟨r, k * 3 + 2, none⟩ = some (.int .i64 pl) := (hB.cell (p := ⟨r, k * 3 + 2, none⟩) HRW.out).trans e2
          have r2 : w1.cell? ⟨B, 2, none⟩ = some (.int .i64 p) := (hB.cell (p := ⟨B, 2, none⟩) HBW.out).trans k2
          go_simp
        change wpAnyH _ _ _ _ _ _ _ (Act.put _ (some 15) _) _
        try simp only [Act.put, List.setIfInBounds_toArray, List.set_cons_zero, List.set_cons_succ]
        refine wpAnyH_take (i := 4) (v := (.int .i64 (k : Int))) rfl (by kernel_rfl) (by kernel_rfl) (by kernel_rfl) (fun _ _ _ h => h) (Or.inl ⟨by kernel_rfl, ?_⟩) hH ?_
        · intro w1 hB
          go_simp
        change wpAnyH _ _ _ _ _ _ _ (Act.put _ (some 16) _) _
        try simp only [Act.put, List.setIfInBounds_toArray, List.set_cons_zero, List.set_cons_succ]
        refine wpAnyH_take (i := 5) (v := (.pointer (some ⟨r, k * 3, none⟩))) rfl (by kernel_rfl) (by kernel_rfl) (by kernel_rfl) (fun _ _ _ h => h) (Or.inl ⟨by kernel_rfl, ?_⟩) hH ?_
        · intro w1 hB
          go_simp
        change wpAnyH _ _ _ _ _ _ _ (Act.put _ (some 17) _) _
        try simp only [Act.put, List.setIfInBounds_toArray, List.set_cons_zero, List.set_cons_succ]
        refine wpAnyH_take (i := 6) (v := (.pointer (some ⟨r, k * 3 + 2, none⟩))) rfl (by kernel_rfl) (by kernel_rfl) (by kernel_rfl) (fun _ _ _ h => h) (Or.inl ⟨by kernel_rfl, ?_⟩) hH ?_
        · intro w1 hB
          go_simp
        change wpAnyH _ _ _ _ _ _ _ (Act.put _ (some 18) _) _
        try simp only [Act.put, List.setIfInBounds_toArray, List.set_cons_zero, List.set_cons_succ]
        refine wpAnyH_take (i := 7) (v := (.int .i64 pl)) rfl (by kernel_rfl) (by kernel_rfl) (by kernel_rfl) (fun _ _ _ h => h) (Or.inl ⟨by kernel_rfl, ?_⟩) hH ?_
        · intro w1 hB
          have r0 : w1.cell? ⟨g, 0, none⟩ = some (.slice (some ⟨r, 0, none⟩) (k + 1) c) := (hB.cell (p := ⟨g, 0, none⟩) HGW.out).trans z0
          have r1 : w1.cell? ⟨r, k * 3 + 2, none⟩ = some (.int .i64 pl) := (hB.cell (p := ⟨r, k * 3 + 2, none⟩) HRW.out).trans e2
          have r2 : w1.cell? ⟨B, 2, none⟩ = some (.int .i64 p) := (hB.cell (p := ⟨B, 2, none⟩) HBW.out).trans k2
          go_simp
        change wpAnyH _ _ _ _ _ _ _ (Act.put _ (some 19) _) _
        try simp only [Act.put, List.setIfInBounds_toArray, List.set_cons_zero, List.set_cons_succ]
        refine wpAnyH_take (i := 8) (v := (.pointer (some ⟨B, 2, none⟩))) rfl (by kernel_rfl) (by kernel_rfl) (by kernel_rfl) (fun _ _ _ h => h) (Or.inl ⟨by kernel_rfl, ?_⟩) hH ?_
        · intro w1 hB
          go_simp
        change wpAnyH _ _ _ _ _ _ _ (Act.put _ (some 20) _) _
        try simp only [Act.put, List.setIfInBounds_toArray, List.set_cons_zero, List.set_cons_succ]
        refine wpAnyH_take (i := 9) (v := (.int .i64 p)) rfl (by kernel_rfl) (by kernel_rfl) (by kernel_rfl) (fun _ _ _ h => h) (Or.inl ⟨by kernel_rfl, ?_⟩) hH ?_
        · intro w1 hB
          have r0 : w1.cell? ⟨g, 0, none⟩ = some (.slice (some ⟨r, 0, none⟩) (k + 1) c) := (hB.cell (p := ⟨g, 0, none⟩) HGW.out).trans z0
          have r1 : w1.cell? ⟨r, k * 3 + 2, none⟩ = some (.int .i64 pl) := (hB.cell (p := ⟨r, k * 3 + 2, none⟩) HRW.out).trans e2
          have r2 : w1.cell? ⟨B, 2, none⟩ = some (.int .i64 p) := (hB.cell (p := ⟨B, 2, none⟩) HBW.out).trans k2
          go_simp
        change wpAnyH _ _ _ _ _ _ _ (Act.put _ (some 21) _) _
        try simp only [Act.put, List.setIfInBounds_toArray, List.set_cons_zero, List.set_cons_succ]
        refine wpAnyH_take (i := 10) (v := (.bool true)) rfl (by kernel_rfl) (by kernel_rfl) (by kernel_rfl) (fun _ _ _ h => h) (Or.inl ⟨by kernel_rfl, ?_⟩) hH ?_
        · intro w1 hB
          go_simp
        change wpAnyH _ _ _ _ _ _ _ (Act.put _ (some 22) _) _
        try simp only [Act.put, List.setIfInBounds_toArray, List.set_cons_zero, List.set_cons_succ]
        refine wpAnyH_take (i := 11) (v := (.bool true)) rfl (by kernel_rfl) (by kernel_rfl) (by kernel_rfl) (fun _ _ _ h => h) (Or.inl ⟨by kernel_rfl, ?_⟩) hH ?_
        · intro w1 hB
          go_simp
        change wpAnyH _ _ _ _ _ _ _ (Act.put _ (some 23) _) _
        try simp only [Act.put, List.setIfInBounds_toArray, List.set_cons_zero, List.set_cons_succ]
        refine wpAnyH_done (by kernel_rfl) ?_ _
        obtain ⟨hJ3, hB3, hK3⟩ := JB.mark (B := W7.heap.size) XG.out HO.out HLJ.out (Nat.lt_succ_self k) hi
        replace hJ3 := Lib.hid hJ3
        replace hB3 := Lib.hid hB3
        replace hK3 := Lib.hid hK3
        gi_wp2
        exact ⟨⟨hK3.out.size, hK3.out.same⟩, hB3.out.drew, by rw [HSN.out, tst_set HLJ.out (by rw [HPL.out]; exact HPE.out)]; exact hJ3.out, HBL.out.trans hB3.out.drew⟩
      · have d0 : (pl == p) = false := beq_eq_false_iff_ne.2 hpe
        have HPE : Hid (¬ pl = p) := hpe
        clear hpe
        gi_wp2
        refine wp_region_round (by kernel_rfl) (by kernel_rfl) (by rintro ⟨_, _, h⟩; exact h) ?_
        refine wpAny_of_held (S := fun w' => Below W.heap.size W w') _ _ _ _ ?_
        have hH : Below W.heap.size W W.drew := (Below.refl _ _).drew
        change wpAnyH _ _ _ _ _ _ _ _ W.drew
        refine wpAnyH_take (i := 0) (v := (.int .i64 (k : Int))) rfl (by kernel_rfl) (by kernel_rfl) (by kernel_rfl) (fun _ _ _ h => h) (Or.inl ⟨by kernel_rfl, ?_⟩) hH ?_
        · intro w1 hB
          go_simp
        change wpAnyH _ _ _ _ _ _ _ (Act.put _ (some 12) _) _
        try simp only [Act.put, List.setIfInBounds_toArray, List.set_cons_zero, List.set_cons_succ]
        refine wpAnyH_take (i := 1) (v := (.bool true)) rfl (by kernel_rfl) (by kernel_rfl) (by kernel_rfl) (fun _ _ _ h => h) (Or.inl ⟨by kernel_rfl, ?_⟩) hH ?_
        · intro w1 hB
          go_simp
        change wpAnyH _ _ _ _ _ _ _ (Act.put _ (some 13) _) _
        try simp only [Act.put, List.setIfInBounds_toArray, List.set_cons_zero, List.set_cons_succ]
        refine wpAnyH_take (i := 2) (v := (.bool true)) rfl (by kernel_rfl) (by kernel_rfl) (by kernel_rfl) (fun _ _ _ h => h) (Or.inl ⟨by kernel_rfl, ?_⟩) hH ?_
        · intro w1 hB
          go_simp
        change wpAnyH _ _ _ _ _ _ _ (Act.put _ (some 14) _) _
        try simp only [Act.put, List.setIfInBounds_toArray, List.set_cons_zero, List.set_cons_succ]
        refine wpAnyH_take (i := 3) (v := (.slice (some ⟨r, 0, none⟩) (k + 1) c)) rfl (by kernel_rfl) (by kernel_rfl) (by kernel_rfl) (fun _ _ _ h => h) (Or.inl ⟨by kernel_rfl, ?_⟩) hH ?_
        · intro w1 hB
          have r0 : w1.cell? ⟨g, 0, none⟩ = some (.slice (some ⟨r, 0, none⟩) (k + 1) c) := (hB.cell (p := ⟨g, 0, none⟩) HGW.out).trans z0
          have r1 : w1.cell? ⟨r, k * 3 + 2, none⟩ = some (.int .i64 pl) := (hB.cell (p := ⟨r, k * 3 + 2, none⟩) HRW.out).trans e2
          have r2 : w1.cell? ⟨B, 2, none⟩ = some (.int .i64 p) := (hB.cell (p := ⟨B, 2, none⟩) HBW.out).trans k2
          go_simp
        change wpAnyH _ _ _ _ _ _ _ (Act.put _ (some 15) _) _
        try simp only [Act.put, List.setIfInBounds_toArray, List.set_cons_zero, List.set_cons_succ]
        refine wpAnyH_take (i := 4) (v := (.int .i64 (k : Int))) rfl (by kernel_rfl) (by kernel_rfl) (by kernel_rfl) (fun _ _ _ h => h) (Or.inl ⟨by kernel_rfl, ?_⟩) hH ?_
        · intro w1 hB
          go_simp
        change wpAnyH _ _ _ _ _ _ _ (Act.put _ (some 16) _) _
        try simp only [Act.put, List.setIfInBounds_toArray, List.set_cons_zero, List.set_cons_succ]
        refine wpAnyH_take (i := 5) (v := (.pointer (some ⟨r, k * 3, none⟩))) rfl (by kernel_rfl) (by kernel_rfl) (by kernel_rfl) (fun _ _ _ h => h) (Or.inl ⟨by kernel_rfl, ?_⟩) hH ?_
        · intro w1 hB
          go_simp
        change wpAnyH _ _ _ _ _ _ _ (Act.put _ (some 17) _) _
        try simp only [Act.put, List.setIfInBounds_toArray, List.set_cons_zero, List.set_cons_succ]
        refine wpAnyH_take (i := 6) (v := (.pointer (some ⟨r, k * 3 + 2, none⟩))) rfl (by kernel_rfl) (by kernel_rfl) (by kernel_rfl) (fun _ _ _ h => h) (Or.inl ⟨by kernel_rfl, ?_⟩) hH ?_
        · intro w1 hB
          go_simp
        change wpAnyH _ _ _ _ _ _ _ (Act.put _ (some 18) _) _
        try simp only [Act.put, List.setIfInBounds_toArray, List.set_cons_zero, List.set_cons_succ]
        refine wpAnyH_take (i := 7) (v := (.int .i64 pl)) rfl (by kernel_rfl) (by kernel_rfl) (by kernel_rfl) (fun _ _ _ h => h) (Or.inl ⟨by kernel_rfl, ?_⟩) hH ?_
        · intro w1 hB
          have r0 : w1.cell? ⟨g, 0, none⟩ = some (.slice (some ⟨r, 0, none⟩) (k + 1) c) := (hB.cell (p := ⟨g, 0, none⟩) HGW.out).trans z0
          have r1 : w1.cell? ⟨r, k * 3 + 2, none⟩ = some (.int .i64 pl) := (hB.cell (p := ⟨r, k * 3 + 2, none⟩) HRW.out).trans e2
          have r2 : w1.cell? ⟨B, 2, none⟩ = some (.int .i64 p) := (hB.cell (p := ⟨B, 2, none⟩) HBW.out).trans k2
          go_simp
        change wpAnyH _ _ _ _ _ _ _ (Act.put _ (some 19) _) _
        try simp only [Act.put, List.setIfInBounds_toArray, List.set_cons_zero, List.set_cons_succ]
        refine wpAnyH_take (i := 8) (v := (.pointer (some ⟨B, 2, none⟩))) rfl (by kernel_rfl) (by kernel_rfl) (by kernel_rfl) (fun _ _ _ h => h) (Or.inl ⟨by kernel_rfl, ?_⟩) hH ?_
        · intro w1 hB
          go_simp
        change wpAnyH _ _ _ _ _ _ _ (Act.put _ (some 20) _) _
        try simp only [Act.put, List.setIfInBounds_toArray, List.set_cons_zero, List.set_cons_succ]
        refine wpAnyH_take (i := 9) (v := (.int .i64 p)) rfl (by kernel_rfl) (by kernel_rfl) (by kernel_rfl) (fun _ _ _ h => h) (Or.inl ⟨by kernel_rfl, ?_⟩) hH ?_
        · intro w1 hB
          have r0 : w1.cell? ⟨g, 0, none⟩ = some (.slice (some ⟨r, 0, none⟩) (k + 1) c) := (hB.cell (p := ⟨g, 0, none⟩) HGW.out).trans z0
          have r1 : w1.cell? ⟨r, k * 3 + 2, none⟩ = some (.int .i64 pl) := (hB.cell (p := ⟨r, k * 3 + 2, none⟩) HRW.out).trans e2
          have r2 : w1.cell? ⟨B, 2, none⟩ = some (.int .i64 p) := (hB.cell (p := ⟨B, 2, none⟩) HBW.out).trans k2
          go_simp
        change wpAnyH _ _ _ _ _ _ _ (Act.put _ (some 21) _) _
        try simp only [Act.put, List.setIfInBounds_toArray, List.set_cons_zero, List.set_cons_succ]
        refine wpAnyH_take (i := 10) (v := (.bool false)) rfl (by kernel_rfl) (by kernel_rfl) (by kernel_rfl) (fun _ _ _ h => h) (Or.inl ⟨by kernel_rfl, ?_⟩) hH ?_
        · intro w1 hB
          go_simp
        change wpAnyH _ _ _ _ _ _ _ (Act.put _ (some 22) _) _
        try simp only [Act.put, List.setIfInBounds_toArray, List.set_cons_zero, List.set_cons_succ]
        refine wpAnyH_take (i := 11) (v := (.bool false)) rfl (by kernel_rfl) (by kernel_rfl) (by kernel_rfl) (fun _ _ _ h => h) (Or.inl ⟨by kernel_rfl, ?_⟩) hH ?_
        · intro w1 hB
          go_simp
        change wpAnyH _ _ _ _ _ _ _ (Act.put _ (some 23) _) _
        try simp only [Act.put, List.setIfInBounds_toArray, List.set_cons_zero, List.set_cons_succ]
        refine wpAnyH_done (by kernel_rfl) ?_ _
        gi_wp2_with (gi_at_builtin; refine wpListIn_append_own _ rfl _ _ 72 rfl (g + 1) 74 i0 (.agg #[.int .i64 0, .int .i64 0, .int .i64 0]) 3 24 Try.underlying72 hi0 hz0 hz1 hz2 rfl (by omega) _ _ _ rfl (HO.out.alloc _) ⟨W.heap.size, 0, none⟩ 1 1 [.int .i64 q, .int .i64 hi, .int .i64 p] rfl rfl (three_cell _ _ _ _ _) (tcv_one' [(q, hi, p)]) (by unfold maxLen; omega) (by omega) (by have := HGW.out; simp; omega) ?_; intro v3 w3 hown3 hgr3 _; obtain ⟨a3, c3, rfl⟩ := of_row_k hown3; obtain ⟨hx3, hJ3, hB3, hK3⟩ := JB.push (B := W7.heap.size) (M := L ++ [(q, hi, p)]) XG.out HO.out (below_new W _).drew hgr3 (by rw [List.length_append, HLJ.out]; rfl) (by rw [tcv_append]; exact hown3); have y0 := hx3.1; have y1 := hx3.2; replace hJ3 := Lib.hid hJ3; replace hB3 := Lib.hid hB3; replace hK3 := Lib.hid hK3; clear hx3 hown3 hgr3)
        exact ⟨hK3.out, hB3.out, by rw [HSN.out, tst_app HLJ.out (by rw [HPL.out]; exact HPE.out)]; exact hJ3.out, HBL.out.trans hB3.out⟩
  case done =>
    rintro D xs W hD rfl ⟨⟨a, c, hbx, ho⟩, hbl⟩ hK
    rw [tl_range, tri_length, ← HN.out] at hbx ho
    have z0 : W.cell? ⟨g, 0, none⟩ = some (.slice a (jn bs n).length c) := by simp [World.cell?, hbx]
    have K8 := Lib.hid hK
    have hD2 : g + 1 ≤ D := by have := HS6.out; omega
    have B8 : Hid (Below w.heap.size w (W.putObj D (.deferred none))) :=
      (BW6.out.trans (hbl.mono (by have := HMR.out; omega))).grown (grownBy_putObj' W D (.deferred none)) (by have := BW6.out.size; have := hbl.size; omega) (fun r e => by cases e; have := HMR.out; omega)
    have O8 : Hid ((W.putObj D (.deferred none)).ownsRow w.heap.size 74 3 (.slice a (jn bs n).length c) (jn bs n).length (tcv (tri (jn bs n)))) :=
      rowmono (own_grown ho (grownBy_putObj' W D (.deferred none)) (fun r e => by cases e; exact ⟨_, hK, rfl⟩)) (by have := HMR.out; omega)
    clear hbx ho hbl hK
    gi_wp2
    refine ⟨by simp, .inl ⟨_, _, rfl, run_takeDeferred K8.out, ?_⟩⟩
    exact ⟨.slice a (jn bs n).length c, by simp [results, Try.results41, go_sem], a, c, rfl, O8.out, B8.out⟩
  case stop =>
    rintro D c pre W hD hS hF hK
    exact hF.elim
end Go.Proofs.Ytdcnkebcpaelpaa.T14
/- Layer 14: the library's Equal over stretches; Equivalent of both sides. -/
namespace Go.Proofs.Ytdcnkebcpaelpaa.T14
open Go.RowKit C6

theorem row_some {w : World} {base n size : Nat} {e : TypeId} {a : Option Addr} {c : Nat} {xs : List Value} (h : w.ownsRow base e size (.slice a n c) n xs) (h0 : 0 < n) : ∃ g, a = some ⟨g, 0, none⟩ ∧ n ≤ c := by
  rcases h.2 with ⟨e, h1⟩ | ⟨g, cap', _, e, _, _, hn, _⟩
  · omega
  · cases e; exact ⟨g, rfl, hn⟩

set_option maxHeartbeats 8000000 in
set_option maxRecDepth 100000 in
theorem Equal_v (b1 b2 : Nat) (a1 a2 : Option Addr) (c1 c2 : Nat) (L M : List (Int × Int × Int)) (w : World) (h1 : w.ownsRow b1 74 3 (.slice a1 L.length c1) L.length (tcv L)) (h2 : w.ownsRow b2 74 3 (.slice a2 M.length c2) M.length (tcv M)) (hL : L.length ≤ 100) (hM : M.length ≤ 100) :
    Calls Try.prog 40 #[.slice a1 L.length c1, .slice a2 M.length c2] w (Says (L = M) w) := by
  obtain ⟨n, hn⟩ : ∃ n, n = L.length := ⟨_, rfl⟩
  obtain ⟨m, hm⟩ : ∃ n, n = M.length := ⟨_, rfl⟩
  rw [← hn] at h1 hL ⊢
  rw [← hm] at h2 hM ⊢
  have HN := Lib.hid hn
  have HM := Lib.hid hm
  have H1 := Lib.hid h1
  have H2 := Lib.hid h2
  clear h1 h2 hn hm
  by_cases hnm : n = m
  · subst hnm
    have d0 : ((n : Int) != (n : Int)) = false := by simp
    go_enter Try.func40, Try.ntmps40
    go_wp2_with fail
    go_loopw [13] (fun s13 wr => ∃ i : Nat, i ≤ n ∧ s13 = .int .i64 (i : Int) ∧ Hid (∀ j, j < i → L.getD j (0, 0, 0) = M.getD j (0, 0, 0)) ∧ Hid (Below w.heap.size w wr)) (fun s13 _ => n - (intOf s13).toNat)
    case atStart => exact ⟨0, by omega, rfl, (show ∀ j, j < 0 → _ from fun j hj => by omega), Below.refl _ _⟩
    case round =>
      obtain ⟨i, hin, rfl, hgd, hbl⟩ := hrel
      by_cases hlt : i < n
      · have hlt2 : (i : Int) < (n : Int) := by omega
        obtain ⟨g1, rfl, hc1⟩ := row_some H1.out (by omega)
        obtain ⟨g2, rfl, hc2⟩ := row_some H2.out (by omega)
        obtain ⟨p0, p1, p2⟩ := tcv_at L i (by rw [← HN.out]; exact hlt)
        obtain ⟨q0, q1, q2⟩ := tcv_at M i (by rw [← HM.out]; exact hlt)
        have R1 := own_below H1.out hbl.out
        have R2 := own_below H2.out hbl.out
        have e0 : wr.cell? ⟨g1, i * 3, none⟩ = _ := (R1.cellAt (i * 3) (by omega)).trans p0
        have e1 : wr.cell? ⟨g1, i * 3 + 1, none⟩ = _ := (R1.cellAt (i * 3 + 1) (by omega)).trans p1
        have e2 : wr.cell? ⟨g1, i * 3 + 2, none⟩ = _ := (R1.cellAt (i * 3 + 2) (by omega)).trans p2
        have f0 : wr.cell? ⟨g2, i * 3, none⟩ = _ := (R2.cellAt (i * 3) (by omega)).trans q0
        have f1 : wr.cell? ⟨g2, i * 3 + 1, none⟩ = _ := (R2.cellAt (i * 3 + 1) (by omega)).trans q1
        have f2 : wr.cell? ⟨g2, i * 3 + 2, none⟩ = _ := (R2.cellAt (i * 3 + 2) (by omega)).trans q2
        have HG1 : Hid (g1 < wr.heap.size) := World.block_lt_of_cell? _ _ e0
        have HG2 : Hid (g2 < wr.heap.size) := World.block_lt_of_cell? _ _ f0
        obtain ⟨X, hX⟩ : ∃ x, x = L.getD i (0, 0, 0) := ⟨_, rfl⟩
        obtain ⟨Y, hY⟩ : ∃ x, x = M.getD i (0, 0, 0) := ⟨_, rfl⟩
        rw [← hX] at e0 e1 e2
        rw [← hY] at f0 f1 f2
        obtain ⟨x0, x1, x2⟩ := X
        obtain ⟨y0, y1, y2⟩ := Y
        dsimp only at e0 e1 e2 f0 f1 f2
        have HX := Lib.hid hX
        have HY := Lib.hid hY
        have hcc1 : (n : Int) ≤ (c1 : Int) := by omega
        have hcc2 : (n : Int) ≤ (c2 : Int) := by omega
        have hb1 : i < n := hlt
        have hwi : IntKind.i64.wrap (i : Int) = (i : Int) := wrap_mid (by omega) (by omega)
        have hnle : ¬ ((n : Int) ≤ (i : Int)) := by omega
        clear hX hY p0 p1 p2 q0 q1 q2 R1 R2 hc1 hc2
        by_cases he : (x0, x1, x2) = (y0, y1, y2)
        · have HE : Hid (L.getD i (0, 0, 0) = M.getD i (0, 0, 0)) := by unfold Hid; rw [← HX.out, ← HY.out, he]
          obtain ⟨rfl, e⟩ := Prod.mk.inj he
          obtain ⟨rfl, rfl⟩ := Prod.mk.inj e
          clear he e
          go_wp2_with fail
          refine wp_region_held_drew (S := fun w' => Below wr.heap.size wr w') (by kernel_rfl) ((Below.refl _ _).drew) (fun hH => ?_)
          refine wpAnyH_take (i := 0) (v := (.slice (some ⟨g1, 0, none⟩) n c1)) rfl (by kernel_rfl) (by kernel_rfl) (by kernel_rfl) (fun _ _ _ h => h) (Or.inl ⟨by kernel_rfl, ?_⟩) hH ?_
          · intro w1 hB
            go_simp
          change wpAnyH _ _ _ _ _ _ _ (Act.put _ (some 16) _) _
          try simp only [Act.put, List.setIfInBounds_toArray, List.set_cons_zero, List.set_cons_succ]
          refine wpAnyH_take (i := 1) (v := (.int .i64 (i : Int))) rfl (by kernel_rfl) (by kernel_rfl) (by kernel_rfl) (fun _ _ _ h => h) (Or.inl ⟨by kernel_rfl, ?_⟩) hH ?_
          · intro w1 hB
            go_simp
          change wpAnyH _ _ _ _ _ _ _ (Act.put _ (some 17) _) _
          try simp only [Act.put, List.setIfInBounds_toArray, List.set_cons_zero, List.set_cons_succ]
          refine wpAnyH_take (i := 2) (v := (.pointer (some ⟨g1, i * 3, none⟩))) rfl (by kernel_rfl) (by kernel_rfl) (by kernel_rfl) (fun _ _ _ h => h) (Or.inl ⟨by kernel_rfl, ?_⟩) hH ?_
          · intro w1 hB
            go_simp
          change wpAnyH _ _ _ _ _ _ _ (Act.put _ (some 18) _) _
          try simp only [Act.put, List.setIfInBounds_toArray, List.set_cons_zero, List.set_cons_succ]
          refine wpAnyH_take (i := 3) (v := (.agg #[.int .i64 x0, .int .i64 x1, .int .i64 x2])) rfl (by kernel_rfl) (by kernel_rfl) (by kernel_rfl) (fun _ _ _ h => h) (Or.inl ⟨by kernel_rfl, ?_⟩) hH ?_
          · intro w1 hB
            have r10 : w1.cell? ⟨g1, i * 3, none⟩ = some (.int .i64 x0) := (hB.cell (p := ⟨g1, i * 3, none⟩) HG1.out).trans e0
            have r11 : w1.cell? ⟨g1, i * 3 + 1, none⟩ = some (.int .i64 x1) := (hB.cell (p := ⟨g1, i * 3 + 1, none⟩) HG1.out).trans e1
            have r12 : w1.cell? ⟨g1, i * 3 + 2, none⟩ = some (.int .i64 x2) := (hB.cell (p := ⟨g1, i * 3 + 2, none⟩) HG1.out).trans e2
            have r20 : w1.cell? ⟨g2, i * 3, none⟩ = some (.int .i64 x0) := (hB.cell (p := ⟨g2, i * 3, none⟩) HG2.out).trans f0
            have r21 : w1.cell? ⟨g2, i * 3 + 1, none⟩ = some (.int .i64 x1) := (hB.cell (p := ⟨g2, i * 3 + 1, none⟩) HG2.out).trans f1
            have r22 : w1.cell? ⟨g2, i * 3 + 2, none⟩ = some (.int .i64 x2) := (hB.cell (p := ⟨g2, i * 3 + 2, none⟩) HG2.out).trans f2
            go_simp
          change wpAnyH _ _ _ _ _ _ _ (Act.put _ (some 19) _) _
          try simp only [Act.put, List.setIfInBounds_toArray, List.set_cons_zero, List.set_cons_succ]
          refine wpAnyH_take (i := 4) (v := (.slice (some ⟨g2, 0, none⟩) n c2)) rfl (by kernel_rfl) (by kernel_rfl) (by kernel_rfl) (fun _ _ _ h => h) (Or.inl ⟨by kernel_rfl, ?_⟩) hH ?_
          · intro w1 hB
            go_simp
          change wpAnyH _ _ _ _ _ _ _ (Act.put _ (some 20) _) _
          try simp only [Act.put, List.setIfInBounds_toArray, List.set_cons_zero, List.set_cons_succ]
          refine wpAnyH_take (i := 5) (v := (.int .i64 (i : Int))) rfl (by kernel_rfl) (by kernel_rfl) (by kernel_rfl) (fun _ _ _ h => h) (Or.inl ⟨by kernel_rfl, ?_⟩) hH ?_
          · intro w1 hB
            go_simp
          change wpAnyH _ _ _ _ _ _ _ (Act.put _ (some 21) _) _
          try simp only [Act.put, List.setIfInBounds_toArray, List.set_cons_zero, List.set_cons_succ]
          refine wpAnyH_take (i := 6) (v := (.pointer (some ⟨g2, i * 3, none⟩))) rfl (by kernel_rfl) (by kernel_rfl) (by kernel_rfl) (fun _ _ _ h => h) (Or.inl ⟨by kernel_rfl, ?_⟩) hH ?_
          · intro w1 hB
            go_simp
          change wpAnyH _ _ _ _ _ _ _ (Act.put _ (some 22) _) _
          try simp only [Act.put, List.setIfInBounds_toArray, List.set_cons_zero, List.set_cons_succ]
          refine wpAnyH_take (i := 7) (v := (.agg #[.int .i64 x0, .int .i64 x1, .int .i64 x2])) rfl (by kernel_rfl) (by kernel_rfl) (by kernel_rfl) (fun _ _ _ h => h) (Or.inl ⟨by kernel_rfl, ?_⟩) hH ?_
          · intro w1 hB
            have r10 : w1.cell? ⟨g1, i * 3, none⟩ = some (.int .i64 x0) := (hB.cell (p := ⟨g1, i * 3, none⟩) HG1.out).trans e0
            have r11 : w1.cell? ⟨g1, i * 3 + 1, none⟩ = some (.int .i64 x1) := (hB.cell (p := ⟨g1, i * 3 + 1, none⟩) HG1.out).trans e1
            have r12 : w1.cell? ⟨g1, i * 3 + 2, none⟩ = some (.int .i64 x2) := (hB.cell (p := ⟨g1, i * 3 + 2, none⟩) HG1.out).trans e2
            have r20 : w1.cell? ⟨g2, i * 3, none⟩ = some (.int .i64 x0) := (hB.cell (p := ⟨g2, i * 3, none⟩) HG2.out).trans f0
            have r21 : w1.cell? ⟨g2, i * 3 + 1, none⟩ = some (.int .i64 x1) := (hB.cell (p := ⟨g2, i * 3 + 1, none⟩) HG2.out).trans f1
            have r22 : w1.cell? ⟨g2, i * 3 + 2, none⟩ = some (.int .i64 x2) := (hB.cell (p := ⟨g2, i * 3 + 2, none⟩) HG2.out).trans f2
            go_simp
          change wpAnyH _ _ _ _ _ _ _ (Act.put _ (some 23) _) _
          try simp only [Act.put, List.setIfInBounds_toArray, List.set_cons_zero, List.set_cons_succ]
          refine wpAnyH_take (i := 8) (v := (.bool false)) rfl (by kernel_rfl) (by kernel_rfl) (by kernel_rfl) (fun _ _ _ h => h) (Or.inl ⟨by kernel_rfl, ?_⟩) hH ?_
          · intro w1 hB
            go_simp
          change wpAnyH _ _ _ _ _ _ _ (Act.put _ (some 24) _) _
          try simp only [Act.put, List.setIfInBounds_toArray, List.set_cons_zero, List.set_cons_succ]
          refine wpAnyH_done (by kernel_rfl) ?_ _
          go_wp2_with fail
          go_roundw
          case rel => exact ⟨i + 1, by omega, by simp, (show ∀ j, j < i + 1 → _ from fun j hj => by
            by_cases e : j = i
            · rw [e]; exact HE.out
            · exact hgd.out j (by omega)), hbl.out.drew⟩
          case measure => simp [intOf]; omega
        · have HE : Hid (¬ L.getD i (0, 0, 0) = M.getD i (0, 0, 0)) := by unfold Hid; rw [← HX.out, ← HY.out]; exact he
          have HNE : Hid (x0 = y0 → x1 = y1 → ¬ x2 = y2) := fun h0 h1 h2 => he (by rw [h0, h1, h2])
          clear he
          go_wp2_with fail
          refine wp_region_held_drew (S := fun w' => Below wr.heap.size wr w') (by kernel_rfl) ((Below.refl _ _).drew) (fun hH => ?_)
          refine wpAnyH_take (i := 0) (v := (.slice (some ⟨g1, 0, none⟩) n c1)) rfl (by kernel_rfl) (by kernel_rfl) (by kernel_rfl) (fun _ _ _ h => h) (Or.inl ⟨by kernel_rfl, ?_⟩) hH ?_
          · intro w1 hB
            go_simp
          change wpAnyH _ _ _ _ _ _ _ (Act.put _ (some 16) _) _
          try simp only [Act.put, List.setIfInBounds_toArray, List.set_cons_zero, List.set_cons_succ]
          refine wpAnyH_take (i := 1) (v := (.int .i64 (i : Int))) rfl (by kernel_rfl) (by kernel_rfl) (by kernel_rfl) (fun _ _ _ h => h) (Or.inl ⟨by kernel_rfl, ?_⟩) hH ?_
          · intro w1 hB
            go_simp
          change wpAnyH _ _ _ _ _ _ _ (Act.put _ (some 17) _) _
          try simp only [Act.put, List.setIfInBounds_toArray, List.set_cons_zero, List.set_cons_succ]
          refine wpAnyH_take (i := 2) (v := (.pointer (some ⟨g1, i * 3, none⟩))) rfl (by kernel_rfl) (by kernel_rfl) (by kernel_rfl) (fun _ _ _ h => h) (Or.inl ⟨by kernel_rfl, ?_⟩) hH ?_
          · intro w1 hB
            go_simp
          change wpAnyH _ _ _ _ _ _ _ (Act.put _ (some 18) _) _
          try simp only [Act.put, List.setIfInBounds_toArray, List.set_cons_zero, List.set_cons_succ]
          refine wpAnyH_take (i := 3) (v := (.agg #[.int .i64 x0, .int .i64 x1, .int .i64 x2])) rfl (by kernel_rfl) (by kernel_rfl) (by kernel_rfl) (fun _ _ _ h => h) (Or.inl ⟨by kernel_rfl, ?_⟩) hH ?_
          · intro w1 hB
            have r10 : w1.cell? ⟨g1, i * 3, none⟩ = some (.int .i64 x0) := (hB.cell (p := ⟨g1, i * 3, none⟩) HG1.out).trans e0
            have r11 : w1.cell? ⟨g1, i * 3 + 1, none⟩ = some (.int .i64 x1) := (hB.cell (p := ⟨g1, i * 3 + 1, none⟩) HG1.out).trans e1
            have r12 : w1.cell? ⟨g1, i * 3 + 2, none⟩ = some (.int .i64 x2) := (hB.cell (p := ⟨g1, i * 3 + 2, none⟩) HG1.out).trans e2
            have r20 : w1.cell? ⟨g2, i * 3, none⟩ = some (.int .i64 y0) := (hB.cell (p := ⟨g2, i * 3, none⟩) HG2.out).trans f0
            have r21 : w1.cell? ⟨g2, i * 3 + 1, none⟩ = some (.int .i64 y1) := (hB.cell (p := ⟨g2, i * 3 + 1, none⟩) HG2.out).trans f1
            have r22 : w1.cell? ⟨g2, i * 3 + 2, none⟩ = some (.int .i64 y2) := (hB.cell (p := ⟨g2, i * 3 + 2, none⟩) HG2.out).trans f2
            go_simp
          change wpAnyH _ _ _ _ _ _ _ (Act.put _ (some 19) _) _
          try simp only [Act.put, List.setIfInBounds_toArray, List.set_cons_zero, List.set_cons_succ]
          refine wpAnyH_take (i := 4) (v := (.slice (some ⟨g2, 0, none⟩) n c2)) rfl (by kernel_rfl) (by kernel_rfl) (by kernel_rfl) (fun _ _ _ h => h) (Or.inl ⟨by kernel_rfl, ?_⟩) hH ?_
          · intro w1 hB
            go_simp
          change wpAnyH _ _ _ _ _ _ _ (Act.put _ (some 20) _) _
          try simp only [Act.put, List.setIfInBounds_toArray, List.set_cons_zero, List.set_cons_succ]
          refine wpAnyH_take (i := 5) (v := (.int .i64 (i : Int))) rfl (by kernel_rfl) (by kernel_rfl) (by kernel_rfl) (fun _ _ _ h => h) (Or.inl ⟨by kernel_rfl, ?_⟩) hH ?_
          · intro w1 hB
            go_simp
          change wpAnyH _ _ _ _ _ _ _ (Act.put _ (some 21) _) _
          try simp only [Act.put, List.setIfInBounds_toArray, List.set_cons_zero, List.set_cons_succ]
          refine wpAnyH_take (i := 6) (v := (.pointer (some ⟨g2, i * 3, none⟩))) rfl (by kernel_rfl) (by kernel_rfl) (by kernel_rfl) (fun _ _ _ h => h) (Or.inl ⟨by kernel_rfl, ?_⟩) hH ?_
          · intro w1 hB
            go_simp
          change wpAnyH _ _ _ _ _ _ _ (Act.put _ (some 22) _) _
          try simp only [Act.put, List.setIfInBounds_toArray, List.set_cons_zero, List.set_cons_succ]
          refine wpAnyH_take (i := 7) (v := (.agg #[.int .i64 y0, .int .i64 y1, .int .i64 y2])) rfl (by kernel_rfl) (by kernel_rfl) (by kernel_rfl) (fun _ _ _ h => h) (Or.inl ⟨by kernel_rfl, ?_⟩) hH ?_
          · intro w1 hB
            have r10 : w1.cell? ⟨g1, i * 3, none⟩ = some (.int .i64 x0) := (hB.cell (p := ⟨g1, i * 3, none⟩) HG1.out).trans e0
            have r11 : w1.cell? ⟨g1, i * 3 + 1, none⟩ = some (.int .i64 x1) := (hB.cell (p := ⟨g1, i * 3 + 1, none⟩) HG1.out).trans e1
            have r12 : w1.cell? ⟨g1, i * 3 + 2, none⟩ = some (.int .i64 x2) := (hB.cell (p := ⟨g1, i * 3 + 2, none⟩) HG1.out).trans e2
            have r20 : w1.cell? ⟨g2, i * 3, none⟩ = some (.int .i64 y0) := (hB.cell (p := ⟨g2, i * 3, none⟩) HG2.out).trans f0
            have r21 : w1.cell? ⟨g2, i * 3 + 1, none⟩ = some (.int .i64 y1) := (hB.cell (p := ⟨g2, i * 3 + 1, none⟩) HG2.out).trans f1
            have r22 : w1.cell? ⟨g2, i * 3 + 2, none⟩ = some (.int .i64 y2) := (hB.cell (p := ⟨g2, i * 3 + 2, none⟩) HG2.out).trans f2
            go_simp
          change wpAnyH _ _ _ _ _ _ _ (Act.put _ (some 23) _) _
          try simp only [Act.put, List.setIfInBounds_toArray, List.set_cons_zero, List.set_cons_succ]
          refine wpAnyH_take (i := 8) (v := (.bool true)) rfl (by kernel_rfl) (by kernel_rfl) (by kernel_rfl) (fun _ _ _ h => h) (Or.inl ⟨by kernel_rfl, ?_⟩) hH ?_
          · intro w1 hB
            go_simp
            exact HNE.out
          change wpAnyH _ _ _ _ _ _ _ (Act.put _ (some 24) _) _
          try simp only [Act.put, List.setIfInBounds_toArray, List.set_cons_zero, List.set_cons_succ]
          refine wpAnyH_done (by kernel_rfl) ?_ _
          go_wp2_with fail
          go_ret
          exact Says.no (fun h => HE.out (by rw [h])) hbl.out.drew
      · obtain rfl : i = n := by omega
        go_wp2_with fail
        go_ret
        exact Says.yes (ext_getD (0, 0, 0) (by rw [← HN.out, ← HM.out]) (fun j hj => hgd.out j (by rw [HN.out]; exact hj))) hbl.out
  · have d0 : ((n : Int) != (m : Int)) = true := bne_iff_ne.2 (by omega)
    have HNM : Hid (¬ n = m) := hnm
    clear hnm
    go_enter Try.func40, Try.ntmps40
    go_wp2_with fail
    go_ret
    exact Says.no (fun h => HNM.out (by rw [HN.out, HM.out, h])) (Below.refl _ _)
end Go.Proofs.Ytdcnkebcpaelpaa.T14
/- Layer 14: Equivalent of both sides. -/
namespace Go.Proofs.Ytdcnkebcpaelpaa.T14
open Go.RowKit C6

theorem EqP.one {st su : Int} {bs cs : List (Int × Int)} (h : ¬ tE st bs = 0) : ¬ EqP st bs su cs := fun k => h k.1
theorem EqP.two {st su : Int} {bs cs : List (Int × Int)} (h : ¬ tE su cs = 0) : ¬ EqP st bs su cs := fun k => h k.2.1
def JoL (L : List (Int × Int × Int)) (n : Nat) (w : World) (e : Ending) (w' : World) : Prop :=
  ∃ (a : Option Addr) (c : Nat), e = .returned (.slice a n c) ∧ w'.ownsRow w.heap.size 74 3 (.slice a n c) n (tcv L) ∧ Below w.heap.size w w'
def JnL (J : List (Int × Int)) (n : Nat) (w : World) (e : Ending) (w' : World) : Prop :=
  ∃ (a : Option Addr) (c : Nat), e = .returned (.slice a n c) ∧ w'.ownsRow w.heap.size 51 2 (.slice a n c) n (bkv J) ∧ Below w.heap.size w w'

set_option maxHeartbeats 16000000 in
set_option maxRecDepth 100000 in
theorem Equivalent_v (st : Int) (ao : Option Addr) (cap : Nat) (bs : List (Int × Int)) (su : Int) (bo : Option Addr) (dap : Nat) (cs : List (Int × Int)) (w : World) (h : RdK w ao cap bs) (k : RdK w bo dap cs) (hl : bs.length ≤ 100) (kl : cs.length ≤ 100) :
    Calls Try.prog 22 #[.agg #[.int .i64 st, .slice ao bs.length cap], .agg #[.int .i64 su, .slice bo cs.length dap]] w (Says (EqP st bs su cs) w) := by
  obtain ⟨n, hn⟩ : ∃ n, n = bs.length := ⟨_, rfl⟩
  obtain ⟨m, hm⟩ : ∃ n, n = cs.length := ⟨_, rfl⟩
  rw [← hn, ← hm]
  obtain ⟨W1, hW1⟩ : ∃ W, W = w.alloc (.cells #[.int .i64 st, .slice ao n cap] 24) := ⟨_, rfl⟩
  obtain ⟨W2, hW2⟩ : ∃ W, W = W1.alloc (.cells #[.int .i64 su, .slice bo m dap] 24) := ⟨_, rfl⟩
  have s1 : W1.heap.size = w.heap.size + 1 := by rw [hW1]; simp
  have b1 : Below w.heap.size w W1 := by rw [hW1]; exact below_new w _
  have b2 : Below W1.heap.size W1 W2 := by rw [hW2]; exact below_new W1 _
  have t1 : TfBox W1 w.heap.size st ao n cap := by rw [hW1]; exact TfBox.new w _ _ _ _
  have HT1 : Hid (TfBox W2 w.heap.size st ao n cap) := carry t1 b2
  have HT2 : Hid (TfBox W2 (w.heap.size + 1) su bo m dap) := by rw [hW2, ← s1]; exact TfBox.new W1 _ _ _ _
  have HB2 : Hid (Below w.heap.size w W2) := b1.trans (b2.mono b1.size)
  have HU : Hid (W2 = (w.alloc (.cells #[.int .i64 st, .slice ao n cap] 24)).alloc (.cells #[.int .i64 su, .slice bo m dap] 24)) := by unfold Hid; rw [hW2, hW1]
  obtain ⟨er, her⟩ : ∃ e, e = tE st bs := ⟨_, rfl⟩
  obtain ⟨fr, hfr⟩ : ∃ e, e = tE su cs := ⟨_, rfl⟩
  have VA : Hid (∀ w', Below W2.heap.size W2 w' → Calls Try.prog 23 #[.agg #[.int .i64 st, .slice ao n cap]] w' (ErrIs er w')) := fun w' hb => by
    have := Validate_v st ao cap bs w' (h.below (HB2.out.trans (hb.mono HB2.out.size))) hl
    rwa [← hn, ← her] at this
  have VB : Hid (∀ w', Below W2.heap.size W2 w' → Calls Try.prog 23 #[.agg #[.int .i64 su, .slice bo m dap]] w' (ErrIs fr w')) := fun w' hb => by
    have := Validate_v su bo dap cs w' (k.below (HB2.out.trans (hb.mono HB2.out.size))) kl
    rwa [← hm, ← hfr] at this
  clear s1 b1 b2 t1 hW1 hW2
  have HE : Hid (EqP st bs su cs ↔ er = 0 ∧ fr = 0 ∧ st = su ∧ jn bs bs.length = jn cs cs.length) := by rw [her, hfr]; exact Iff.rfl
  have JA : Hid (er = 0 → ∃ nA, nA = (jn bs bs.length).length ∧ nA ≤ 100 ∧ ∀ w', Below W2.heap.size W2 w' → Calls Try.prog 41 #[.agg #[.int .i64 st, .slice ao n cap]] w' (JoL (tri (jn bs bs.length)) nA w')) := fun e => ⟨_, rfl, Nat.le_trans (jn_len _ _) hl, fun w' hb => by
    have := joined_v st ao cap bs w' (h.below (HB2.out.trans (hb.mono HB2.out.size))) (tE_ok (her ▸ e)).2.2
    rwa [← hn] at this ⊢⟩
  have JB' : Hid (fr = 0 → ∃ nB, nB = (jn cs cs.length).length ∧ nB ≤ 100 ∧ ∀ w', Below W2.heap.size W2 w' → Calls Try.prog 41 #[.agg #[.int .i64 su, .slice bo m dap]] w' (JoL (tri (jn cs cs.length)) nB w')) := fun e => ⟨_, rfl, Nat.le_trans (jn_len _ _) kl, fun w' hb => by
    have := joined_v su bo dap cs w' (k.below (HB2.out.trans (hb.mono HB2.out.size))) (tE_ok (hfr ▸ e)).2.2
    rwa [← hm] at this ⊢⟩
  have INJ : Hid (er = 0 → fr = 0 → (tri (jn bs bs.length) = tri (jn cs cs.length) ↔ jn bs bs.length = jn cs cs.length)) := fun e f => tri_inj (jn_up (tE_ok (her ▸ e)).2.2 _) (jn_up (tE_ok (hfr ▸ f)).2.2 _)
  clear her hfr h k hn hm hl kl
  by_cases h0 : er = 0
  · subst h0
    by_cases h1 : fr = 0
    · subst h1
      have d0 : ((0 : Int) != 0) = false := rfl
      obtain ⟨nA, hnA, hA100, ja⟩ := JA.out rfl
      obtain ⟨nB, hnB, hB100, jb⟩ := JB'.out rfl
      have JAH := Lib.hid ja
      have JBH := Lib.hid jb
      have hinj := Lib.hid (INJ.out rfl rfl)
      obtain ⟨L, hL⟩ : ∃ L, L = tri (jn bs bs.length) := ⟨_, rfl⟩
      obtain ⟨M, hM⟩ : ∃ L, L = tri (jn cs cs.length) := ⟨_, rfl⟩
      rw [← hL] at JAH hinj
      rw [← hM] at JBH hinj
      have hnL : nA = L.length := by rw [hL, tri_length]; exact hnA
      have hnM : nB = M.length := by rw [hM, tri_length]; exact hnB
      have EQ : Hid (∀ (b1 b2 : Nat) (a1 a2 : Option Addr) (c1 c2 : Nat) (w' : World), w'.ownsRow b1 74 3 (.slice a1 nA c1) nA (tcv L) → w'.ownsRow b2 74 3 (.slice a2 nB c2) nB (tcv M) → Calls Try.prog 40 #[.slice a1 nA c1, .slice a2 nB c2] w' (Says (L = M) w')) := by
        intro b1 b2 a1 a2 c1 c2 w' h1 h2
        rw [hnL] at h1 hA100 ⊢
        rw [hnM] at h2 hB100 ⊢
        exact Equal_v b1 b2 a1 a2 c1 c2 L M w' h1 h2 hA100 hB100
      have HEQ : Hid (EqP st bs su cs ↔ st = su ∧ L = M) := by
        unfold Hid; rw [HE.out, hinj.out]
        exact ⟨fun h => h.2.2, fun h => ⟨rfl, rfl, h⟩⟩
      clear ja jb hnA hnB hL hM hnL hnM JA JB' INJ hinj hA100 hB100 HE
      by_cases hs : st = su
      · have ds : (st == su) = true := beq_iff_eq.2 hs
        have HS := Lib.hid hs
        clear hs
        go_enter Try.func22, Try.ntmps22
        go_upto_region 1 with fail
        rw [← HU.out]
        obtain ⟨k0, k1⟩ := HT1.out.cells
        obtain ⟨j0, j1⟩ := HT2.out.cells
        go_wp2_with fail
        refine (VA.out _ (Below.refl _ _)).mono ?_; rintro e V1 ⟨rfl, v1⟩
        have HV1 := Lib.hid v1
        clear k0 k1 j0 j1 v1
        obtain ⟨j0, j1⟩ := (HT2.out.below HV1.out HT2.out.lt).cells
        go_wp2_with fail
        refine (VB.out _ HV1.out).mono ?_; rintro e V5 ⟨rfl, v5⟩
        have HV5 : Hid (Below W2.heap.size W2 V5) := keepB v5 HV1.out (Nat.le_refl _)
        clear j0 j1 v5
        go_wp2_with fail
        refine wp_region_held_drew (S := fun w' => Below W2.heap.size W2 w') (by kernel_rfl) (Below.drew HV5.out) (fun hH => ?_)
        refine wpAnyH_take (i := 0) (v := (.pointer (some ⟨w.heap.size, 0, none⟩))) rfl (by kernel_rfl) (by kernel_rfl) (by kernel_rfl) (fun _ _ _ h => h) (Or.inl ⟨by kernel_rfl, ?_⟩) hH ?_
        · intro w1 hB
          go_simp
        change wpAnyH _ _ _ _ _ _ _ (Act.put _ (some 13) _) _
        try simp only [Act.put, List.setIfInBounds_toArray, List.set_cons_zero, List.set_cons_succ]
        refine wpAnyH_take (i := 1) (v := (.int .i64 st)) rfl (by kernel_rfl) (by kernel_rfl) (by kernel_rfl) (fun _ _ _ h => h) (Or.inl ⟨by kernel_rfl, ?_⟩) hH ?_
        · intro w1 hB
          obtain ⟨k0, k1⟩ := (HT1.out.below hB HT1.out.lt).cells
          obtain ⟨j0, j1⟩ := (HT2.out.below hB HT2.out.lt).cells
          go_simp
        change wpAnyH _ _ _ _ _ _ _ (Act.put _ (some 14) _) _
        try simp only [Act.put, List.setIfInBounds_toArray, List.set_cons_zero, List.set_cons_succ]
        refine wpAnyH_take (i := 2) (v := (.pointer (some ⟨w.heap.size + 1, 0, none⟩))) rfl (by kernel_rfl) (by kernel_rfl) (by kernel_rfl) (fun _ _ _ h => h) (Or.inl ⟨by kernel_rfl, ?_⟩) hH ?_
        · intro w1 hB
          go_simp
        change wpAnyH _ _ _ _ _ _ _ (Act.put _ (some 15) _) _
        try simp only [Act.put, List.setIfInBounds_toArray, List.set_cons_zero, List.set_cons_succ]
        refine wpAnyH_take (i := 3) (v := (.int .i64 su)) rfl (by kernel_rfl) (by kernel_rfl) (by kernel_rfl) (fun _ _ _ h => h) (Or.inl ⟨by kernel_rfl, ?_⟩) hH ?_
        · intro w1 hB
          obtain ⟨k0, k1⟩ := (HT1.out.below hB HT1.out.lt).cells
          obtain ⟨j0, j1⟩ := (HT2.out.below hB HT2.out.lt).cells
          go_simp
        change wpAnyH _ _ _ _ _ _ _ (Act.put _ (some 16) _) _
        try simp only [Act.put, List.setIfInBounds_toArray, List.set_cons_zero, List.set_cons_succ]
        refine wpAnyH_take (i := 4) (v := (.bool true)) rfl (by kernel_rfl) (by kernel_rfl) (by kernel_rfl) (fun _ _ _ h => h) (Or.inl ⟨by kernel_rfl, ?_⟩) hH ?_
        · intro w1 hB
          go_simp
        change wpAnyH _ _ _ _ _ _ _ (Act.put _ (some 17) _) _
        try simp only [Act.put, List.setIfInBounds_toArray, List.set_cons_zero, List.set_cons_succ]
        refine wpAnyH_take (i := 5) (v := (.bool true)) rfl (by kernel_rfl) (by kernel_rfl) (by kernel_rfl) (fun _ _ _ h => h) (Or.inl ⟨by kernel_rfl, ?_⟩) hH ?_
        · intro w1 hB
          go_simp
        change wpAnyH _ _ _ _ _ _ _ (Act.put _ (some 18) _) _
        try simp only [Act.put, List.setIfInBounds_toArray, List.set_cons_zero, List.set_cons_succ]
        refine wpAnyH_take (i := 6) (v := (.agg #[.int .i64 st, .slice ao n cap])) rfl (by kernel_rfl) (by kernel_rfl) (by kernel_rfl) (fun _ _ _ h => h) (Or.inl ⟨by kernel_rfl, ?_⟩) hH ?_
        · intro w1 hB
          obtain ⟨k0, k1⟩ := (HT1.out.below hB HT1.out.lt).cells
          obtain ⟨j0, j1⟩ := (HT2.out.below hB HT2.out.lt).cells
          go_simp
        change wpAnyH _ _ _ _ _ _ _ (Act.put _ (some 19) _) _
        try simp only [Act.put, List.setIfInBounds_toArray, List.set_cons_zero, List.set_cons_succ]
        refine wpAnyH_take (i := 8) (v := (.agg #[.int .i64 su, .slice bo m dap])) rfl (by kernel_rfl) (by kernel_rfl) (by kernel_rfl) (fun _ _ _ h => h) (Or.inl ⟨by kernel_rfl, ?_⟩) hH ?_
        · intro w1 hB
          obtain ⟨k0, k1⟩ := (HT1.out.below hB HT1.out.lt).cells
          obtain ⟨j0, j1⟩ := (HT2.out.below hB HT2.out.lt).cells
          go_simp
        change wpAnyH _ _ _ _ _ _ _ (Act.put _ (some 21) _) _
        try simp only [Act.put, List.setIfInBounds_toArray, List.set_cons_zero, List.set_cons_succ]
        refine wpAnyH_ready (rs := [7]) (by kernel_rfl) (by simp) ?_
        refine AllReadyH.cons rfl (fun K hK => ?_) AllReadyH.nil
        go_simp
        refine (JAH.out _ hH).mono ?_
        rintro e V7 ⟨a7, c7, rfl, o7, v7⟩
        replace o7 := Lib.hid o7
        try go_simp
        refine hK.out _ _ (keepB v7 hH (Nat.le_refl _)) (fun hH7 => ?_)
        clear hK K
        try simp only [Act.put, List.setIfInBounds_toArray, List.set_cons_zero, List.set_cons_succ]
        refine wpAnyH_ready (rs := [9]) (by kernel_rfl) (by simp) ?_
        refine AllReadyH.cons rfl (fun K hK => ?_) AllReadyH.nil
        go_simp
        refine (JBH.out _ hH7).mono ?_
        rintro e V9 ⟨a9, c9, rfl, o9, v9⟩
        replace o9 := Lib.hid o9
        replace o7 := Lib.hid (own_below o7.out v9)
        try go_simp
        refine hK.out _ _ (keepB v9 hH7 (Nat.le_refl _)) (fun hH9 => ?_)
        clear hK K
        try simp only [Act.put, List.setIfInBounds_toArray, List.set_cons_zero, List.set_cons_succ]
        refine wpAnyH_ready (rs := [10]) (by kernel_rfl) (by simp) ?_
        refine AllReadyH.cons rfl (fun K hK => ?_) AllReadyH.nil
        go_simp
        refine (EQ.out _ _ _ _ _ _ _ o7.out o9.out).mono ?_
        rintro e V10 ⟨b10, rfl, hb10, v10⟩
        replace hb10 := Lib.hid hb10
        try go_simp
        refine hK.out _ _ (keepB v10 hH9 (Nat.le_refl _)) (fun hH10 => ?_)
        clear hK K
        try simp only [Act.put, List.setIfInBounds_toArray, List.set_cons_zero, List.set_cons_succ]
        refine wpAnyH_take (i := 11) (v := (.bool b10)) rfl (by kernel_rfl) (by kernel_rfl) (by kernel_rfl) (fun _ _ _ h => h) (Or.inl ⟨by kernel_rfl, ?_⟩) hH10 ?_
        · intro w1 hB
          go_simp
        change wpAnyH _ _ _ _ _ _ _ (Act.put _ (some 24) _) _
        try simp only [Act.put, List.setIfInBounds_toArray, List.set_cons_zero, List.set_cons_succ]
        refine wpAnyH_take (i := 12) (v := (.bool b10)) rfl (by kernel_rfl) (by kernel_rfl) (by kernel_rfl) (fun _ _ _ h => h) (Or.inl ⟨by kernel_rfl, ?_⟩) hH10 ?_
        · intro w1 hB
          go_simp
        change wpAnyH _ _ _ _ _ _ _ (Act.put _ (some 4) _) _
        try simp only [Act.put, List.setIfInBounds_toArray, List.set_cons_zero, List.set_cons_succ]
        refine wpAnyH_done (by kernel_rfl) ?_ _
        go_wp2_with fail
        go_ret
        exact ⟨b10, rfl, hb10.out.trans ⟨fun h => HEQ.out.2 ⟨HS.out, h⟩, fun h => (HEQ.out.1 h).2⟩, HB2.out.trans (Below.mono hH10 HB2.out.size)⟩
      · have ds : (st == su) = false := beq_eq_false_iff_ne.2 hs
        have HS : Hid (¬ st = su) := hs
        clear hs
        go_enter Try.func22, Try.ntmps22
        go_upto_region 1 with fail
        rw [← HU.out]
        obtain ⟨k0, k1⟩ := HT1.out.cells
        obtain ⟨j0, j1⟩ := HT2.out.cells
        go_wp2_with fail
        refine (VA.out _ (Below.refl _ _)).mono ?_; rintro e V1 ⟨rfl, v1⟩
        have HV1 := Lib.hid v1
        clear k0 k1 j0 j1 v1
        obtain ⟨j0, j1⟩ := (HT2.out.below HV1.out HT2.out.lt).cells
        go_wp2_with fail
        refine (VB.out _ HV1.out).mono ?_; rintro e V5 ⟨rfl, v5⟩
        have HV5 : Hid (Below W2.heap.size W2 V5) := keepB v5 HV1.out (Nat.le_refl _)
        clear j0 j1 v5
        go_wp2_with fail
        refine wp_region_held_drew (S := fun w' => Below W2.heap.size W2 w') (by kernel_rfl) (Below.drew HV5.out) (fun hH => ?_)
        refine wpAnyH_take (i := 0) (v := (.pointer (some ⟨w.heap.size, 0, none⟩))) rfl (by kernel_rfl) (by kernel_rfl) (by kernel_rfl) (fun _ _ _ h => h) (Or.inl ⟨by kernel_rfl, ?_⟩) hH ?_
        · intro w1 hB
          go_simp
        change wpAnyH _ _ _ _ _ _ _ (Act.put _ (some 13) _) _
        try simp only [Act.put, List.setIfInBounds_toArray, List.set_cons_zero, List.set_cons_succ]
        refine wpAnyH_take (i := 1) (v := (.int .i64 st)) rfl (by kernel_rfl) (by kernel_rfl) (by kernel_rfl) (fun _ _ _ h => h) (Or.inl ⟨by kernel_rfl, ?_⟩) hH ?_
        · intro w1 hB
          obtain ⟨k0, k1⟩ := (HT1.out.below hB HT1.out.lt).cells
          obtain ⟨j0, j1⟩ := (HT2.out.below hB HT2.out.lt).cells
          go_simp
        change wpAnyH _ _ _ _ _ _ _ (Act.put _ (some 14) _) _
        try simp only [Act.put, List.setIfInBounds_toArray, List.set_cons_zero, List.set_cons_succ]
        refine wpAnyH_take (i := 2) (v := (.pointer (some ⟨w.heap.size + 1, 0, none⟩))) rfl (by kernel_rfl) (by kernel_rfl) (by kernel_rfl) (fun _ _ _ h => h) (Or.inl ⟨by kernel_rfl, ?_⟩) hH ?_
        · intro w1 hB
          go_simp
        change wpAnyH _ _ _ _ _ _ _ (Act.put _ (some 15) _) _
        try simp only [Act.put, List.setIfInBounds_toArray, List.set_cons_zero, List.set_cons_succ]
        refine wpAnyH_take (i := 3) (v := (.int .i64 su)) rfl (by kernel_rfl) (by kernel_rfl) (by kernel_rfl) (fun _ _ _ h => h) (Or.inl ⟨by kernel_rfl, ?_⟩) hH ?_
        · intro w1 hB
          obtain ⟨k0, k1⟩ := (HT1.out.below hB HT1.out.lt).cells
          obtain ⟨j0, j1⟩ := (HT2.out.below hB HT2.out.lt).cells
          go_simp
        change wpAnyH _ _ _ _ _ _ _ (Act.put _ (some 16) _) _
        try simp only [Act.put, List.setIfInBounds_toArray, List.set_cons_zero, List.set_cons_succ]
        refine wpAnyH_take (i := 4) (v := (.bool false)) rfl (by kernel_rfl) (by kernel_rfl) (by kernel_rfl) (fun _ _ _ h => h) (Or.inl ⟨by kernel_rfl, ?_⟩) hH ?_
        · intro w1 hB
          go_simp
        change wpAnyH _ _ _ _ _ _ _ (Act.put _ (some 17) _) _
        try simp only [Act.put, List.setIfInBounds_toArray, List.set_cons_zero, List.set_cons_succ]
        refine wpAnyH_take (i := 5) (v := (.bool false)) rfl (by kernel_rfl) (by kernel_rfl) (by kernel_rfl) (fun _ _ _ h => h) (Or.inl ⟨by kernel_rfl, ?_⟩) hH ?_
        · intro w1 hB
          go_simp
        change wpAnyH _ _ _ _ _ _ _ (Act.put _ (some 18) _) _
        try simp only [Act.put, List.setIfInBounds_toArray, List.set_cons_zero, List.set_cons_succ]
        refine wpAnyH_take (i := 6) (v := undef) rfl (by kernel_rfl) (by kernel_rfl) (by kernel_rfl) (fun _ _ _ h => h) (Or.inr ⟨by kernel_rfl, rfl⟩) hH ?_
        change wpAnyH _ _ _ _ _ _ _ (Act.put _ (some 19) _) _
        try simp only [Act.put, List.setIfInBounds_toArray, List.set_cons_zero, List.set_cons_succ]
        refine wpAnyH_take (i := 7) (v := undef) rfl (by kernel_rfl) (by kernel_rfl) (by kernel_rfl) (fun _ _ _ h => h) (Or.inr ⟨by kernel_rfl, rfl⟩) hH ?_
        change wpAnyH _ _ _ _ _ _ _ (Act.put _ (some 20) _) _
        try simp only [Act.put, List.setIfInBounds_toArray, List.set_cons_zero, List.set_cons_succ]
        refine wpAnyH_take (i := 8) (v := undef) rfl (by kernel_rfl) (by kernel_rfl) (by kernel_rfl) (fun _ _ _ h => h) (Or.inr ⟨by kernel_rfl, rfl⟩) hH ?_
        change wpAnyH _ _ _ _ _ _ _ (Act.put _ (some 21) _) _
        try simp only [Act.put, List.setIfInBounds_toArray, List.set_cons_zero, List.set_cons_succ]
        refine wpAnyH_take (i := 9) (v := undef) rfl (by kernel_rfl) (by kernel_rfl) (by kernel_rfl) (fun _ _ _ h => h) (Or.inr ⟨by kernel_rfl, rfl⟩) hH ?_
        change wpAnyH _ _ _ _ _ _ _ (Act.put _ (some 22) _) _
        try simp only [Act.put, List.setIfInBounds_toArray, List.set_cons_zero, List.set_cons_succ]
        refine wpAnyH_take (i := 10) (v := undef) rfl (by kernel_rfl) (by kernel_rfl) (by kernel_rfl) (fun _ _ _ h => h) (Or.inr ⟨by kernel_rfl, rfl⟩) hH ?_
        change wpAnyH _ _ _ _ _ _ _ (Act.put _ (some 23) _) _
        try simp only [Act.put, List.setIfInBounds_toArray, List.set_cons_zero, List.set_cons_succ]
        refine wpAnyH_take (i := 11) (v := (.bool false)) rfl (by kernel_rfl) (by kernel_rfl) (by kernel_rfl) (fun _ _ _ h => h) (Or.inl ⟨by kernel_rfl, ?_⟩) hH ?_
        · intro w1 hB
          go_simp
        change wpAnyH _ _ _ _ _ _ _ (Act.put _ (some 24) _) _
        try simp only [Act.put, List.setIfInBounds_toArray, List.set_cons_zero, List.set_cons_succ]
        refine wpAnyH_take (i := 12) (v := (.bool false)) rfl (by kernel_rfl) (by kernel_rfl) (by kernel_rfl) (fun _ _ _ h => h) (Or.inl ⟨by kernel_rfl, ?_⟩) hH ?_
        · intro w1 hB
          go_simp
        change wpAnyH _ _ _ _ _ _ _ (Act.put _ (some 4) _) _
        try simp only [Act.put, List.setIfInBounds_toArray, List.set_cons_zero, List.set_cons_succ]
        refine wpAnyH_done (by kernel_rfl) ?_ _
        go_wp2_with fail
        go_ret
        exact Says.no (fun h => HS.out (HEQ.out.1 h).1) (HB2.out.trans (Below.mono hH HB2.out.size))
    · have d0 : ((0 : Int) != 0) = false := rfl
      have d1 : (fr != 0) = true := bne_iff_ne.2 h1
      have H1 : Hid (¬ fr = 0) := h1
      clear h1 JA JB' INJ
      go_enter Try.func22, Try.ntmps22
      go_upto_region 1 with fail
      rw [← HU.out]
      obtain ⟨k0, k1⟩ := HT1.out.cells
      obtain ⟨j0, j1⟩ := HT2.out.cells
      go_wp2_with fail
      refine (VA.out _ (Below.refl _ _)).mono ?_; rintro e V1 ⟨rfl, v1⟩
      have HV1 := Lib.hid v1
      clear k0 k1 j0 j1 v1
      obtain ⟨j0, j1⟩ := (HT2.out.below HV1.out HT2.out.lt).cells
      go_wp2_with fail
      refine (VB.out _ HV1.out).mono ?_; rintro e V5 ⟨rfl, v5⟩
      have HV5 : Hid (Below W2.heap.size W2 V5) := keepB v5 HV1.out (Nat.le_refl _)
      clear j0 j1 v5
      go_wp2_with fail
      go_ret
      exact Says.no (fun h => H1.out (HE.out.1 h).2.1) (HB2.out.trans (Below.mono HV5.out HB2.out.size))
  · have d0 : (er != 0) = true := bne_iff_ne.2 h0
    have H0 : Hid (¬ er = 0) := h0
    clear h0 JA JB' INJ
    go_enter Try.func22, Try.ntmps22
    go_upto_region 1 with fail
    rw [← HU.out]
    obtain ⟨k0, k1⟩ := HT1.out.cells
    obtain ⟨j0, j1⟩ := HT2.out.cells
    go_wp2_with fail
    refine (VA.out _ (Below.refl _ _)).mono ?_; rintro e V1 ⟨rfl, v1⟩
    have HV1 := Lib.hid v1
    clear k0 k1 j0 j1 v1
    go_wp2_with fail
    go_ret
    exact Says.no (fun h => H0.out (HE.out.1 h).1) (HB2.out.trans (Below.mono HV1.out HB2.out.size))
end Go.Proofs.Ytdcnkebcpaelpaa.T14
/- Layer 14: the reference's Equivalent. -/
namespace Go.Proofs.Ytdcnkebcpaelpaa.T14
open Go.RowKit C6

end Go.Proofs.Ytdcnkebcpaelpaa.T14
