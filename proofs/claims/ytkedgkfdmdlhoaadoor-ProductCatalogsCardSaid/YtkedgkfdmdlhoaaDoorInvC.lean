import Derived.Deep.RegionHeld3
import Derived.Deep.DrawnRows
import Derived.WalkKit
/- A region that draws its order, by an invariant: one step for each operation, whatever has come up before it. Beneath it stands the library's own rule over all orders. -/
namespace Go.Proofs.YtkedgkfdmdlhoaaDoor
open Go.RowKit

section
variable {P : Program} {ops : Array Oper} {Q : Exit → Act → World → Prop} {md : Region.Mode}

/-- how many operations have not come up yet -/
def unl (l : Array Bool) : Nat := l.toList.countP (fun b => !b)
theorem lt_of_open {l : Array Bool} {i : Nat} (h : l.getD i true = false) : i < l.size := by
  rcases Nat.lt_or_ge i l.size with h' | h'
  · exact h'
  · simp [Array.getElem?_eq_none h'] at h
theorem unl_set {l : Array Bool} {i : Nat} (h : l.getD i true = false) : unl (l.setIfInBounds i true) + 1 = unl l := by
  have hl := lt_of_open h
  have hi : l.toList[i]'(by simpa using hl) = false := by
    have : l[i]? = some l[i] := Array.getElem?_eq_getElem hl
    simp [this] at h
    simpa using h
  unfold unl
  rw [Array.toList_setIfInBounds, List.countP_set (by simpa using hl)]
  have hp : 0 < l.toList.countP (fun b => !b) := List.countP_pos_iff.2 ⟨false, by rw [← hi]; exact List.getElem_mem _, rfl⟩
  have hp' : l.toList.countP (fun b => !b) = l.toList.countP (fun b => !b) - 1 + 1 := by omega
  simp only [hi]
  simpa using hp'.symm

theorem wpAny_inv (I : Array Bool → Act → World → Prop)
    (hdone : ∀ l a w, Region.ready md ops l = [] → I l a w → Q .normal a w)
    (hstep : ∀ l a w i, i ∈ Region.ready md ops l → I l a w → wpOp P ops Q i (I (l.setIfInBounds i true)) a w) :
    ∀ fuel l a w, unl l ≤ fuel → I l a w → wpAny P md ops Q fuel l a w := by
  intro fuel
  induction fuel with
  | zero =>
    intro l a w h hI
    have hr : Region.ready md ops l = [] := by
      apply List.eq_nil_iff_forall_not_mem.2
      intro i hi
      have := unl_set (mem_ready.1 hi).1
      omega
    exact ⟨hr, hdone l a w hr hI⟩
  | succ fuel ih =>
    intro l a w h hI
    exact ⟨fun hr => hdone l a w hr hI, fun i hi => wpOp_mono (fun a' w' h' => ih _ a' w' (by have := unl_set (mem_ready.1 hi).1; omega) h') (hstep l a w i hi hI)⟩

/-- the operations that one waits for -/
def pre (md : Region.Mode) (ops : Array Oper) (i : Nat) : List Nat := ((ops[i]?).map fun o => (o.after.toList.filter fun e => Region.binds md e).map (·.on)).getD []
/-- one more has come up -/
def upd (D : Nat → Bool) (i : Nat) : Nat → Bool := fun k => Nat.beq k i || D k
def setf (f : Nat → Value) (t : Nat) (v : Value) : Nat → Value := fun k => bif Nat.beq k t then v else f k
/-- the frame with the region's own slots -/
def putAll (a : Act) : List Nat → (Nat → Value) → Act
  | [], _ => a
  | t :: ts, f => (putAll a ts f).put (some t) (f t)
theorem putAll_same (a : Act) (ts : List Nat) : putAll a ts (fun t => a.tmps.getD t undef) = a := by
  induction ts with
  | nil => rfl
  | cons t ts ih =>
    rw [putAll, ih]
    cases a with
    | mk tmps defers =>
      simp only [Act.put]
      congr 1
      apply Array.ext
      · simp
      · intro i h1 h2
        rw [Array.getElem_setIfInBounds]
        split
        · rename_i e; subst e; simp [Array.getElem?_eq_getElem h2]
        · rfl
def backs (md : Region.Mode) (ops : Array Oper) : Bool := (List.range ops.size).all fun i => (pre md ops i).all fun k => decide (k < i)

/-- **The rule**: an invariant over what has come up (D), the values of the region's own slots (f) and the world. -/
theorem region_steps (dsts : List Nat) (I : (Nat → Bool) → (Nat → Value) → World → Prop) {a : Act} {w : World}
    (hb : backs md ops = true) (h0 : I (fun _ => false) (fun t => a.tmps.getD t undef) w)
    (hstep : ∀ i, i < ops.size → ∀ D f w, D i = false → (∀ k ∈ pre md ops i, D k = true) → (∀ j, D j = true → ∀ k ∈ pre md ops j, D k = true) → I D f w →
      wpOp P ops Q i (fun a' w' => ∃ f', a' = putAll a dsts f' ∧ I (upd D i) f' w') (putAll a dsts f) w)
    (hdone : ∀ D f w, (∀ i, i < ops.size → D i = true) → I D f w → Q .normal (putAll a dsts f) w) :
    wpAny P md ops Q ops.size (Array.replicate ops.size false) a w := by
  refine wpAny_inv (I := fun l a' w' => l.size = ops.size ∧ (∀ j, l.getD j false = true → ∀ k ∈ pre md ops j, l.getD k false = true) ∧ ∃ f, a' = putAll a dsts f ∧ I (fun k => l.getD k false) f w') ?_ ?_ _ _ _ _ ?_ ?_
  · rintro l _ w hr ⟨hl, _, f, rfl, hI⟩
    refine hdone _ f w ?_ hI
    intro i
    induction i using Nat.strongRecOn with
    | ind i ih =>
      intro hi
      cases hd : l.getD i false with
      | true => rfl
      | false =>
        exfalso
        have hd' : l.getD i true = false := by
          have hil : i < l.size := by omega
          simp [Array.getD, hil] at hd ⊢; exact hd
        have hall : ∀ k ∈ pre md ops i, k < i := by
          have h := hb
          unfold backs at h
          rw [List.all_eq_true] at h
          have h2 := h i (List.mem_range.2 hi)
          rw [List.all_eq_true] at h2
          exact fun k hk => of_decide_eq_true (h2 k hk)
        have hmem : i ∈ Region.ready md ops l := by
          refine mem_ready.2 ⟨hd', ops[i], Array.getElem?_eq_getElem hi, fun e he hbe => ?_⟩
          have hk : e.on ∈ pre md ops i := by
            unfold pre
            rw [Array.getElem?_eq_getElem hi]
            simp only [Option.map_some, Option.getD_some, List.mem_map, List.mem_filter]
            exact ⟨e, ⟨by simpa using he, hbe⟩, rfl⟩
          exact ih e.on (hall _ hk) (Nat.lt_trans (hall _ hk) hi)
        rw [hr] at hmem
        cases hmem
  · rintro l _ w i hi ⟨hl, hcl, f, rfl, hI⟩
    obtain ⟨h1, o, ho, hall⟩ := mem_ready.1 hi
    have hil := lt_of_open h1
    have hpre : ∀ k ∈ pre md ops i, l.getD k false = true := by
      intro k hk
      unfold pre at hk
      rw [ho] at hk
      simp only [Option.map_some, Option.getD_some, List.mem_map, List.mem_filter] at hk
      obtain ⟨e, ⟨he, hbe⟩, rfl⟩ := hk
      exact hall e (by simpa using he) hbe
    refine wpOp_mono ?_ (hstep i (by omega) (fun k => l.getD k false) f w ?_ hpre hcl hI)
    · rintro a' w' ⟨f', rfl, hI'⟩
      refine ⟨by simpa using hl, ?_, f', rfl, ?_⟩
      · intro j hj k hk
        by_cases hji : j = i
        · subst hji; exact getD_set_true (hpre k hk)
        · rw [getD_set_ne false (fun e => hji e.symm)] at hj
          exact getD_set_true (hcl j hj k hk)
      have e : (fun k => (l.setIfInBounds i true).getD k false) = upd (fun k => l.getD k false) i := by
        funext k
        unfold upd
        by_cases hk : k = i
        · subst hk
          have : Nat.beq k k = true := Nat.beq_refl k
          rw [this, Bool.true_or]
          simp [Array.getD, hil]
        · have : Nat.beq k i = false := by
            rw [Bool.eq_false_iff]; exact fun e => hk (Nat.eq_of_beq_eq_true e)
          rw [this, Bool.false_or]
          exact getD_set_ne false (fun e => hk e.symm)
      rw [e]
      exact hI'
    · simp [Array.getD, hil] at h1 ⊢; exact h1
  · unfold unl
    refine Nat.le_trans List.countP_le_length ?_
    simp
  · have e0 : ∀ k, (Array.replicate ops.size false).getD k false = false := by
      intro k
      by_cases hk : k < ops.size
      · simp [Array.getD, hk]
      · simp [Array.getD, hk]
    refine ⟨by simp, (fun j hj => by rw [e0] at hj; cases hj), _, (putAll_same a dsts).symm, ?_⟩
    have e : (fun k => (Array.replicate ops.size false).getD k false) = fun _ => false := by
      funext k
      by_cases hk : k < ops.size
      · simp [Array.getD, hk]
      · simp [Array.getD, hk]
    rw [e]
    exact h0
theorem act_ext {a b : Act} (h : ∀ k : Nat, a.tmps[k]? = b.tmps[k]?) (hd : a.defers = b.defers) : a = b := by
  cases a; cases b
  simp only at h hd
  congr 1
  exact Array.ext_getElem? h
theorem put_get (a : Act) (t : Nat) (v : Value) (k : Nat) : (a.put (some t) v).tmps[k]? = (a.tmps[k]?).map (fun u => if k = t then v else u) := by
  simp only [Act.put, Array.getElem?_setIfInBounds]
  by_cases h : t = k
  · subst h
    by_cases hl : t < a.tmps.size
    · simp [hl]
    · simp [hl]
  · have h' : ¬ k = t := fun e => h e.symm
    simp only [h, h', if_false]
    cases a.tmps[k]? <;> rfl
theorem putAll_get (a : Act) (ts : List Nat) (f : Nat → Value) (k : Nat) : (putAll a ts f).tmps[k]? = (a.tmps[k]?).map (fun u => if k ∈ ts then f k else u) := by
  induction ts with
  | nil => simp [putAll]
  | cons t ts ih =>
    rw [putAll, put_get, ih, Option.map_map]
    congr 1
    funext u
    by_cases h : k = t
    · subst h; simp
    · simp [h]
theorem putAll_defers (a : Act) (ts : List Nat) (f : Nat → Value) : (putAll a ts f).defers = a.defers := by
  induction ts with
  | nil => rfl
  | cons t ts ih => rw [putAll]; simp only [Act.put]; exact ih
theorem putAll_put {a : Act} {ts : List Nat} {f : Nat → Value} {t : Nat} (h : t ∈ ts) (v : Value) : (putAll a ts f).put (some t) v = putAll a ts (setf f t v) := by
  apply act_ext
  · intro k
    rw [put_get, putAll_get, putAll_get, Option.map_map]
    congr 1
    funext u
    by_cases hk : k = t
    · subst hk
      simp [h, setf]
    · have : Nat.beq k t = false := by rw [Bool.eq_false_iff]; exact fun e => hk (Nat.eq_of_beq_eq_true e)
      simp [hk, setf, this]
  · rw [show ((putAll a ts f).put (some t) v).defers = (putAll a ts f).defers from rfl, putAll_defers, putAll_defers]

/-- the value of an operation -/
def opval (ops : Array Oper) (f : Nat → Value) (i : Nat) : Value := match (ops[i]?).bind (·.dst) with | some t => f t | none => undef
def AllBelow (S : Nat → Prop) : Nat → Prop
  | 0 => True
  | n + 1 => AllBelow S n ∧ S n
theorem AllBelow.at {S : Nat → Prop} {n : Nat} (h : AllBelow S n) : ∀ i, i < n → S i := by
  induction n with
  | zero => intro i hi; omega
  | succ n ih =>
    intro i hi
    rcases Nat.lt_or_ge i n with h' | h'
    · exact ih h.1 i h'
    · have : i = n := by omega
      subst this; exact h.2
/-- each operation writes a slot of its own, or none -/
def apartDsts (ops : Array Oper) (dsts : List Nat) : Bool := (List.range ops.size).all fun i => match (ops[i]?).bind (·.dst) with
  | none => true
  | some t => dsts.contains t && (List.range ops.size).all fun j => j == i || (ops[j]?).bind (·.dst) != some t
/-- the frame's values behind an operation -/
def updv (ops : Array Oper) (f : Nat → Value) (i : Nat) (v : Value) : Nat → Value := match (ops[i]?).bind (·.dst) with | some t => setf f t v | none => f
def opdv (ops : Array Oper) (i : Nat) (v : Value) : Value := match (ops[i]?).bind (·.dst) with | some _ => v | none => undef
/-- one operation's part: what it yields, from what those that it waits for have yielded -/
def StepAt (P : Program) (md : Region.Mode) (ops : Array Oper) (Q : Exit → Act → World → Prop) (F : (Nat → Value) → Act) (Bs : World → Prop) (E : World → World → Prop) (R : Nat → Value → World → Prop) (X : (Nat → Bool) → (Nat → Value) → World → Prop) (i : Nat) : Prop :=
  ∀ D f w, D i = false → Bs w → (∀ k, k < ops.size → D k = true → R k (opval ops f k) w) → (∀ k ∈ pre md ops i, D k = true ∧ R k (opval ops f k) w) → (∀ j, D j = true → ∀ k ∈ pre md ops j, D k = true) → X D f w →
    wpOp P ops Q i (fun a' w' => ∃ v, a' = (F f).put ((ops[i]?).bind (·.dst)) v ∧ R i (opdv ops i v) w' ∧ E w w' ∧ X (upd D i) (updv ops f i v) w') (F f) w
/-- **The rule by values**: each operation by itself. Bs: what holds of the world throughout; E: what an operation does to it; R: what an operation yields; X: what else is to be said of all together. -/
theorem region_ssa (dsts : List Nat) (Bs : World → Prop) (E : World → World → Prop) (R : Nat → Value → World → Prop) (X : (Nat → Bool) → (Nat → Value) → World → Prop) {a : Act} {w0 : World} {F : (Nat → Value) → Act} (hF : ∀ f, putAll a dsts f = F f)
    (hb : backs md ops = true) (hd : apartDsts ops dsts = true) (hw : Bs w0) (hX : ∀ f, X (fun _ => false) f w0)
    (hst : ∀ i v w w', Bs w → R i v w → E w w' → R i v w') (hbs : ∀ w w', Bs w → E w w' → Bs w')
    (hstep : AllBelow (StepAt P md ops Q F Bs E R X) ops.size)
    (hdone : ∀ D f w, (∀ i, i < ops.size → D i = true) → Bs w → (∀ i, i < ops.size → R i (opval ops f i) w) → X D f w → Q .normal (F f) w) :
    wpAny P md ops Q ops.size (Array.replicate ops.size false) a w0 := by
  refine region_steps dsts (fun D f w => Bs w ∧ (∀ i, i < ops.size → D i = true → R i (opval ops f i) w) ∧ X D f w) hb ⟨hw, (fun _ _ h => by cases h), hX _⟩ ?_ ?_
  · rintro i hi D f w hDi hpre hcl ⟨hB, hR, hX⟩
    rw [hF]
    have hall : ∀ k ∈ pre md ops i, k < i := by
      have h := hb
      unfold backs at h
      rw [List.all_eq_true] at h
      have h2 := h i (List.mem_range.2 hi)
      rw [List.all_eq_true] at h2
      exact fun k hk => of_decide_eq_true (h2 k hk)
    refine wpOp_mono ?_ (hstep.at i hi D f w hDi hB hR (fun k hk => ⟨hpre k hk, hR k (Nat.lt_trans (hall k hk) hi) (hpre k hk)⟩) hcl hX)
    rintro a' w' ⟨v, rfl, hv, hE, hX'⟩
    have hB' := hbs _ _ hB hE
    unfold apartDsts at hd
    rw [List.all_eq_true] at hd
    have hdi := hd i (List.mem_range.2 hi)
    have hold : ∀ j, j < ops.size → upd D i j = true → j ≠ i → R j (opval ops f j) w' := by
      intro j hj hDj hji
      refine hst _ _ _ _ hB (hR j hj ?_) hE
      unfold upd at hDj
      have : Nat.beq j i = false := by rw [Bool.eq_false_iff]; exact fun e => hji (Nat.eq_of_beq_eq_true e)
      simpa [this] using hDj
    unfold updv at hX'
    unfold opdv at hv
    cases hdst : (ops[i]?).bind (·.dst) with
    | none =>
      rw [hdst] at hv hX'
      refine ⟨f, by rw [← hF]; rfl, hB', ?_, hX'⟩
      intro j hj hDj
      by_cases hji : j = i
      · subst hji
        have : opval ops f j = undef := by unfold opval; rw [hdst]
        rw [this]; exact hv
      · exact hold j hj hDj hji
    | some t =>
      rw [hdst] at hv hdi hX'
      simp only [Bool.and_eq_true, List.all_eq_true, Bool.or_eq_true, beq_iff_eq] at hdi
      refine ⟨setf f t v, by rw [← hF]; exact putAll_put (by simpa using hdi.1) v, hB', ?_, hX'⟩
      intro j hj hDj
      by_cases hji : j = i
      · subst hji
        have : opval ops (setf f t v) j = v := by unfold opval; rw [hdst]; simp [setf]
        rw [this]; exact hv
      · have hne := (hdi.2 j (List.mem_range.2 hj)).resolve_left hji
        have : opval ops (setf f t v) j = opval ops f j := by
          unfold opval
          cases hdj : (ops[j]?).bind (·.dst) with
          | none => rfl
          | some u =>
            rw [hdj] at hne
            have hut : u ≠ t := fun e => by subst e; simp at hne
            have : Nat.beq u t = false := by rw [Bool.eq_false_iff]; exact fun e => hut (Nat.eq_of_beq_eq_true e)
            simp [setf, this]
        rw [this]
        exact hold j hj hDj hji
  · rintro D f w hD ⟨hB, hR, hX⟩
    rw [hF]
    exact hdone D f w hD hB (fun i hi => hR i hi (hD i hi)) hX
end
end Go.Proofs.YtkedgkfdmdlhoaaDoor
