import Derived.Deep.RegionHeld3
import Derived.Deep.DrawnRows
import Derived.WalkKit
import Derived.Test.YtdcnkebcpaelpaaGreatDoorRat10
/- A region that draws its order, by an invariant: one step for each operation, whatever has come up before it. Beneath it stands the library's own rule over all orders. -/
namespace Go.Proofs.YtdcnkebcpaelpaaGreatDoor
open Go.RowKit

section
variable {P : Program} {ops : Array Oper} {Q : Exit → Act → World → Prop} {md : Region.Mode}

/-- how many operations have not come up yet -/
def unl (l : Array Bool) : Nat := l.toList.countP (fun b => !b)
theorem lt_of_open {l : Array Bool} {i : Nat} (h : l.getD i true = false) : i < l.size := by
  rcases Nat.lt_or_ge i l.size with h' | h'
  · exact h'
  · simp [Array.getElem?_eq_none h'] at h
theorem unl_set {l : Array Bool} {i : Nat} (h : l.getD i true = false) : unl (l.setIfInBounds i true) + 1 = unl l := by
  have hl := lt_of_open h
  have hi : l.toList[i]'(by simpa using hl) = false := by
    have : l[i]? = some l[i] := Array.getElem?_eq_getElem hl
    simp [this] at h
    simpa using h
  unfold unl
  rw [Array.toList_setIfInBounds, List.countP_set (by simpa using hl)]
  have hp : 0 < l.toList.countP (fun b => !b) := List.countP_pos_iff.2 ⟨false, by rw [← hi]; exact List.getElem_mem _, rfl⟩
  have hp' : l.toList.countP (fun b => !b) = l.toList.countP (fun b => !b) - 1 + 1 := by omega
  simp only [hi]
  simpa using hp'.symm

theorem wpAny_inv (I : Array Bool → Act → World → Prop)
    (hdone : ∀ l a w, Region.ready md ops l = [] → I l a w → Q .normal a w)
    (hstep : ∀ l a w i, i ∈ Region.ready md ops l → I l a w → wpOp P ops Q i (I (l.setIfInBounds i true)) a w) :
    ∀ fuel l a w, unl l ≤ fuel → I l a w → wpAny P md ops Q fuel l a w := by
  intro fuel
  induction fuel with
  | zero =>
    intro l a w h hI
    have hr : Region.ready md ops l = [] := by
      apply List.eq_nil_iff_forall_not_mem.2
      intro i hi
      have := unl_set (mem_ready.1 hi).1
      omega
    exact ⟨hr, hdone l a w hr hI⟩
  | succ fuel ih =>
    intro l a w h hI
    exact ⟨fun hr => hdone l a w hr hI, fun i hi => wpOp_mono (fun a' w' h' => ih _ a' w' (by have := unl_set (mem_ready.1 hi).1; omega) h') (hstep l a w i hi hI)⟩

/-- the operations that one waits for -/
def pre (md : Region.Mode) (ops : Array Oper) (i : Nat) : List Nat := ((ops[i]?).map fun o => (o.after.toList.filter fun e => Region.binds md e).map (·.on)).getD []
/-- one more has come up -/
def upd (D : Nat → Bool) (i : Nat) : Nat → Bool := fun k => Nat.beq k i || D k
def setf (f : Nat → Value) (t : Nat) (v : Value) : Nat → Value := fun k => bif Nat.beq k t then v else f k
/-- the frame with the region's own slots -/
def putAll (a : Act) : List Nat → (Nat → Value) → Act
  | [], _ => a
  | t :: ts, f => (putAll a ts f).put (some t) (f t)
theorem putAll_same (a : Act) (ts : List Nat) : putAll a ts (fun t => a.tmps.getD t undef) = a := by
  induction ts with
  | nil => rfl
  | cons t ts ih =>
    rw [putAll, ih]
    cases a with
    | mk tmps defers =>
      simp only [Act.put]
      congr 1
      apply Array.ext
      · simp
      · intro i h1 h2
        rw [Array.getElem_setIfInBounds]
        split
        · rename_i e; subst e; simp [Array.getElem?_eq_getElem h2]
        · rfl
def backs (md : Region.Mode) (ops : Array Oper) : Bool := (List.range ops.size).all fun i => (pre md ops i).all fun k => decide (k < i)

/-- **The rule**: an invariant over what has come up (D), the values of the region's own slots (f) and the world. -/
theorem region_steps (dsts : List Nat) (I : (Nat → Bool) → (Nat → Value) → World → Prop) {a : Act} {w : World}
    (hb : backs md ops = true) (h0 : I (fun _ => false) (fun t => a.tmps.getD t undef) w)
    (hstep : ∀ i, i < ops.size → ∀ D f w, D i = false → (∀ k ∈ pre md ops i, D k = true) → (∀ j, D j = true → ∀ k ∈ pre md ops j, D k = true) → I D f w →
      wpOp P ops Q i (fun a' w' => ∃ f', a' = putAll a dsts f' ∧ I (upd D i) f' w') (putAll a dsts f) w)
    (hdone : ∀ D f w, (∀ i, i < ops.size → D i = true) → I D f w → Q .normal (putAll a dsts f) w) :
    wpAny P md ops Q ops.size (Array.replicate ops.size false) a w := by
  refine wpAny_inv (I := fun l a' w' => l.size = ops.size ∧ (∀ j, l.getD j false = true → ∀ k ∈ pre md ops j, l.getD k false = true) ∧ ∃ f, a' = putAll a dsts f ∧ I (fun k => l.getD k false) f w') ?_ ?_ _ _ _ _ ?_ ?_
  · rintro l _ w hr ⟨hl, _, f, rfl, hI⟩
    refine hdone _ f w ?_ hI
    intro i
    induction i using Nat.strongRecOn with
    | ind i ih =>
      intro hi
      cases hd : l.getD i false with
      | true => rfl
      | false =>
        exfalso
        have hd' : l.getD i true = false := by
          have hil : i < l.size := by omega
          simp [Array.getD, hil] at hd ⊢; exact hd
        have hall : ∀ k ∈ pre md ops i, k < i := by
          have h := hb
          unfold backs at h
          rw [List.all_eq_true] at h
          have h2 := h i (List.mem_range.2 hi)
          rw [List.all_eq_true] at h2
          exact fun k hk => of_decide_eq_true (h2 k hk)
        have hmem : i ∈ Region.ready md ops l := by
          refine mem_ready.2 ⟨hd', ops[i], Array.getElem?_eq_getElem hi, fun e he hbe => ?_⟩
          have hk : e.on ∈ pre md ops i := by
            unfold pre
            rw [Array.getElem?_eq_getElem hi]
            simp only [Option.map_some, Option.getD_some, List.mem_map, List.mem_filter]
            exact ⟨e, ⟨by simpa using he, hbe⟩, rfl⟩
          exact ih e.on (hall _ hk) (Nat.lt_trans (hall _ hk) hi)
        rw [hr] at hmem
        cases hmem
  · rintro l _ w i hi ⟨hl, hcl, f, rfl, hI⟩
    obtain ⟨h1, o, ho, hall⟩ := mem_ready.1 hi
    have hil := lt_of_open h1
    have hpre : ∀ k ∈ pre md ops i, l.getD k false = true := by
      intro k hk
      unfold pre at hk
      rw [ho] at hk
      simp only [Option.map_some, Option.getD_some, List.mem_map, List.mem_filter] at hk
      obtain ⟨e, ⟨he, hbe⟩, rfl⟩ := hk
      exact hall e (by simpa using he) hbe
    refine wpOp_mono ?_ (hstep i (by omega) (fun k => l.getD k false) f w ?_ hpre hcl hI)
    · rintro a' w' ⟨f', rfl, hI'⟩
      refine ⟨by simpa using hl, ?_, f', rfl, ?_⟩
      · intro j hj k hk
        by_cases hji : j = i
        · subst hji; exact getD_set_true (hpre k hk)
        · rw [getD_set_ne false (fun e => hji e.symm)] at hj
          exact getD_set_true (hcl j hj k hk)
      have e : (fun k => (l.setIfInBounds i true).getD k false) = upd (fun k => l.getD k false) i := by
        funext k
        unfold upd
        by_cases hk : k = i
        · subst hk
          have : Nat.beq k k = true := Nat.beq_refl k
          rw [this, Bool.true_or]
          simp [Array.getD, hil]
        · have : Nat.beq k i = false := by
            rw [Bool.eq_false_iff]; exact fun e => hk (Nat.eq_of_beq_eq_true e)
          rw [this, Bool.false_or]
          exact getD_set_ne false (fun e => hk e.symm)
      rw [e]
      exact hI'
    · simp [Array.getD, hil] at h1 ⊢; exact h1
  · unfold unl
    refine Nat.le_trans List.countP_le_length ?_
    simp
  · have e0 : ∀ k, (Array.replicate ops.size false).getD k false = false := by
      intro k
      by_cases hk : k < ops.size
      · simp [Array.getD, hk]
      · simp [Array.getD, hk]
    refine ⟨by simp, (fun j hj => by rw [e0] at hj; cases hj), _, (putAll_same a dsts).symm, ?_⟩
    have e : (fun k => (Array.replicate ops.size false).getD k false) = fun _ => false := by
      funext k
      by_cases hk : k < ops.size
      · simp [Array.getD, hk]
      · simp [Array.getD, hk]
    rw [e]
    exact h0
theorem act_ext {a b : Act} (h : ∀ k : Nat, a.tmps[k]? = b.tmps[k]?) (hd : a.defers = b.defers) : a = b := by
  cases a; cases b
  simp only at h hd
  congr 1
  exact Array.ext_getElem? h
theorem put_get (a : Act) (t : Nat) (v : Value) (k : Nat) : (a.put (some t) v).tmps[k]? = (a.tmps[k]?).map (fun u => if k = t then v else u) := by
  simp only [Act.put, Array.getElem?_setIfInBounds]
  by_cases h : t = k
  · subst h
    by_cases hl : t < a.tmps.size
    · simp [hl]
    · simp [hl]
  · have h' : ¬ k = t := fun e => h e.symm
    simp only [h, h', if_false]
    cases a.tmps[k]? <;> rfl
theorem putAll_get (a : Act) (ts : List Nat) (f : Nat → Value) (k : Nat) : (putAll a ts f).tmps[k]? = (a.tmps[k]?).map (fun u => if k ∈ ts then f k else u) := by
  induction ts with
  | nil => simp [putAll]
  | cons t ts ih =>
    rw [putAll, put_get, ih, Option.map_map]
    congr 1
    funext u
    by_cases h : k = t
    · subst h; simp
    · simp [h]
theorem putAll_defers (a : Act) (ts : List Nat) (f : Nat → Value) : (putAll a ts f).defers = a.defers := by
  induction ts with
  | nil => rfl
  | cons t ts ih => rw [putAll]; simp only [Act.put]; exact ih
theorem putAll_put {a : Act} {ts : List Nat} {f : Nat → Value} {t : Nat} (h : t ∈ ts) (v : Value) : (putAll a ts f).put (some t) v = putAll a ts (setf f t v) := by
  apply act_ext
  · intro k
    rw [put_get, putAll_get, putAll_get, Option.map_map]
    congr 1
    funext u
    by_cases hk : k = t
    · subst hk
      simp [h, setf]
    · have : Nat.beq k t = false := by rw [Bool.eq_false_iff]; exact fun e => hk (Nat.eq_of_beq_eq_true e)
      simp [hk, setf, this]
  · rw [show ((putAll a ts f).put (some t) v).defers = (putAll a ts f).defers from rfl, putAll_defers, putAll_defers]

/-- the value of an operation -/
def opval (ops : Array Oper) (f : Nat → Value) (i : Nat) : Value := match (ops[i]?).bind (·.dst) with | some t => f t | none => undef
def AllBelow (S : Nat → Prop) : Nat → Prop
  | 0 => True
  | n + 1 => AllBelow S n ∧ S n
theorem AllBelow.at {S : Nat → Prop} {n : Nat} (h : AllBelow S n) : ∀ i, i < n → S i := by
  induction n with
  | zero => intro i hi; omega
  | succ n ih =>
    intro i hi
    rcases Nat.lt_or_ge i n with h' | h'
    · exact ih h.1 i h'
    · have : i = n := by omega
      subst this; exact h.2
/-- each operation writes a slot of its own, or none -/
def apartDsts (ops : Array Oper) (dsts : List Nat) : Bool := (List.range ops.size).all fun i => match (ops[i]?).bind (·.dst) with
  | none => true
  | some t => dsts.contains t && (List.range ops.size).all fun j => j == i || (ops[j]?).bind (·.dst) != some t
/-- the frame's values behind an operation -/
def updv (ops : Array Oper) (f : Nat → Value) (i : Nat) (v : Value) : Nat → Value := match (ops[i]?).bind (·.dst) with | some t => setf f t v | none => f
def opdv (ops : Array Oper) (i : Nat) (v : Value) : Value := match (ops[i]?).bind (·.dst) with | some _ => v | none => undef
/-- one operation's part: what it yields, from what those that it waits for have yielded -/
def StepAt (P : Program) (md : Region.Mode) (ops : Array Oper) (Q : Exit → Act → World → Prop) (F : (Nat → Value) → Act) (Bs : World → Prop) (E : World → World → Prop) (R : Nat → Value → World → Prop) (X : (Nat → Bool) → (Nat → Value) → World → Prop) (i : Nat) : Prop :=
  ∀ D f w, D i = false → Bs w → (∀ k, k < ops.size → D k = true → R k (opval ops f k) w) → (∀ k ∈ pre md ops i, D k = true ∧ R k (opval ops f k) w) → (∀ j, D j = true → ∀ k ∈ pre md ops j, D k = true) → X D f w →
    wpOp P ops Q i (fun a' w' => ∃ v, a' = (F f).put ((ops[i]?).bind (·.dst)) v ∧ R i (opdv ops i v) w' ∧ E w w' ∧ X (upd D i) (updv ops f i v) w') (F f) w
/-- **The rule by values**: each operation by itself. Bs: what holds of the world throughout; E: what an operation does to it; R: what an operation yields; X: what else is to be said of all together. -/
theorem region_ssa (dsts : List Nat) (Bs : World → Prop) (E : World → World → Prop) (R : Nat → Value → World → Prop) (X : (Nat → Bool) → (Nat → Value) → World → Prop) {a : Act} {w0 : World} {F : (Nat → Value) → Act} (hF : ∀ f, putAll a dsts f = F f)
    (hb : backs md ops = true) (hd : apartDsts ops dsts = true) (hw : Bs w0) (hX : ∀ f, X (fun _ => false) f w0)
    (hst : ∀ i v w w', Bs w → R i v w → E w w' → R i v w') (hbs : ∀ w w', Bs w → E w w' → Bs w')
    (hstep : AllBelow (StepAt P md ops Q F Bs E R X) ops.size)
    (hdone : ∀ D f w, (∀ i, i < ops.size → D i = true) → Bs w → (∀ i, i < ops.size → R i (opval ops f i) w) → X D f w → Q .normal (F f) w) :
    wpAny P md ops Q ops.size (Array.replicate ops.size false) a w0 := by
  refine region_steps dsts (fun D f w => Bs w ∧ (∀ i, i < ops.size → D i = true → R i (opval ops f i) w) ∧ X D f w) hb ⟨hw, (fun _ _ h => by cases h), hX _⟩ ?_ ?_
  · rintro i hi D f w hDi hpre hcl ⟨hB, hR, hX⟩
    rw [hF]
    have hall : ∀ k ∈ pre md ops i, k < i := by
      have h := hb
      unfold backs at h
      rw [List.all_eq_true] at h
      have h2 := h i (List.mem_range.2 hi)
      rw [List.all_eq_true] at h2
      exact fun k hk => of_decide_eq_true (h2 k hk)
    refine wpOp_mono ?_ (hstep.at i hi D f w hDi hB hR (fun k hk => ⟨hpre k hk, hR k (Nat.lt_trans (hall k hk) hi) (hpre k hk)⟩) hcl hX)
    rintro a' w' ⟨v, rfl, hv, hE, hX'⟩
    have hB' := hbs _ _ hB hE
    unfold apartDsts at hd
    rw [List.all_eq_true] at hd
    have hdi := hd i (List.mem_range.2 hi)
    have hold : ∀ j, j < ops.size → upd D i j = true → j ≠ i → R j (opval ops f j) w' := by
      intro j hj hDj hji
      refine hst _ _ _ _ hB (hR j hj ?_) hE
      unfold upd at hDj
      have : Nat.beq j i = false := by rw [Bool.eq_false_iff]; exact fun e => hji (Nat.eq_of_beq_eq_true e)
      simpa [this] using hDj
    unfold updv at hX'
    unfold opdv at hv
    cases hdst : (ops[i]?).bind (·.dst) with
    | none =>
      rw [hdst] at hv hX'
      refine ⟨f, by rw [← hF]; rfl, hB', ?_, hX'⟩
      intro j hj hDj
      by_cases hji : j = i
      · subst hji
        have : opval ops f j = undef := by unfold opval; rw [hdst]
        rw [this]; exact hv
      · exact hold j hj hDj hji
    | some t =>
      rw [hdst] at hv hdi hX'
      simp only [Bool.and_eq_true, List.all_eq_true, Bool.or_eq_true, beq_iff_eq] at hdi
      refine ⟨setf f t v, by rw [← hF]; exact putAll_put (by simpa using hdi.1) v, hB', ?_, hX'⟩
      intro j hj hDj
      by_cases hji : j = i
      · subst hji
        have : opval ops (setf f t v) j = v := by unfold opval; rw [hdst]; simp [setf]
        rw [this]; exact hv
      · have hne := (hdi.2 j (List.mem_range.2 hj)).resolve_left hji
        have : opval ops (setf f t v) j = opval ops f j := by
          unfold opval
          cases hdj : (ops[j]?).bind (·.dst) with
          | none => rfl
          | some u =>
            rw [hdj] at hne
            have hut : u ≠ t := fun e => by subst e; simp at hne
            have : Nat.beq u t = false := by rw [Bool.eq_false_iff]; exact fun e => hut (Nat.eq_of_beq_eq_true e)
            simp [setf, this]
        rw [this]
        exact hold j hj hDj hji
  · rintro D f w hD ⟨hB, hR, hX⟩
    rw [hF]
    exact hdone D f w hD hB (fun i hi => hR i hi (hD i hi)) hX
end
end Go.Proofs.YtdcnkebcpaelpaaGreatDoor
/- What operations of a drawn region yield, and what they do to the world. -/
namespace Go.Proofs.YtdcnkebcpaelpaaGreatDoor
open Go.RowKit

/-- a value that stands for the number q, in memory of the call's own -/
def IsQ (q : Rat) (k : Nat) (v : Value) (w : World) : Prop := ∃ s ao n ca bo m cb, v = .agg #[.bool s, .slice ao n ca, .slice bo m cb] ∧ CQ 0 w s ao n ca bo m cb q k
/-- blocks below n are as they were; of the others a struct's box alone may turn -/
def Ext (n : Nat) (w w' : World) : Prop := Below n w w' ∧ ∀ b, b < w.heap.size → w'.heap[b]? = w.heap[b]? ∨ (Box3 w b ∧ Box3 w' b)
theorem Ext.of_below {n : Nat} {w w' : World} (h : Below w.heap.size w w') (hn : n ≤ w.heap.size) : Ext n w w' := ⟨h.mono hn, fun b hb => .inl (h.block b hb)⟩
theorem Ext.refl (n : Nat) (w : World) : Ext n w w := ⟨Below.refl _ _, fun _ _ => .inl rfl⟩
theorem Ext.set3 {n g : Nat} {w : World} (h : Box3 w g) (hg : n ≤ g) (u v x : Value) : Ext n w (((w.setCell ⟨g, 0, none⟩ u).setCell ⟨g, 1, none⟩ v).setCell ⟨g, 2, none⟩ x) := by
  refine ⟨below3 (Below.refl _ _) hg _ _ _, fun b _ => ?_⟩
  by_cases hb : b = g
  · subst hb; exact .inr ⟨h, h.set3 _ _ _⟩
  · exact .inl (set3_off hb _ _ _)
theorem Fr.ext {B n : Nat} {w w' : World} {ao : Option Addr} {cap : Nat} {xs : List Nat} (h : Fr B w ao cap xs) (hE : Ext n w w') : Fr B w' ao cap xs := by
  obtain ⟨h1, h2, h3, h4⟩ := h
  refine ⟨h1, h2, h3, ?_⟩
  rcases h4 with h | ⟨b, rfl, hB, h⟩
  · exact .inl h
  · refine .inr ⟨b, rfl, hB, h.block ?_⟩
    rcases hE.2 b h.lt with e | ⟨⟨u, v, x, e⟩, _⟩
    · exact e
    · exfalso
      obtain ⟨cur, hc, _⟩ := h
      rw [hc] at e
      simp at e
theorem CQ.ext {B n : Nat} {w w' : World} {s : Bool} {ao : Option Addr} {l ca : Nat} {bo : Option Addr} {m cb : Nat} {q : Rat} {k : Nat} (h : CQ B w s ao l ca bo m cb q k) (hE : Ext n w w') : CQ B w' s ao l ca bo m cb q k := by
  obtain ⟨h1, h2, h3, h4, h5, h6⟩ := h
  exact ⟨h1, h2, h3, h4.ext hE, h5.ext hE, h6⟩
theorem IsQ.ext {q : Rat} {k n : Nat} {v : Value} {w w' : World} (h : IsQ q k v w) (hE : Ext n w w') : IsQ q k v w' := by
  obtain ⟨s, ao, l, ca, bo, m, cb, rfl, h⟩ := h
  exact ⟨s, ao, l, ca, bo, m, cb, rfl, h.ext hE⟩
theorem IsQ.below {q : Rat} {k : Nat} {v : Value} {w w' : World} (h : IsQ q k v w) (hb : Below w.heap.size w w') : IsQ q k v w' := h.ext (Ext.of_below (n := 0) hb (Nat.zero_le _))
theorem MakesQ.isq {q : Rat} {k : Nat} {w w' : World} {e : Ending} (h : MakesQ q k w e w') : ∃ v, e = .returned v ∧ IsQ q k v w' ∧ Below w.heap.size w w' := by
  obtain ⟨s, ao, n, ca, bo, m, cb, rfl, h, hb⟩ := h
  exact ⟨_, rfl, ⟨s, ao, n, ca, bo, m, cb, rfl, h.mono (Nat.zero_le _)⟩, hb⟩
/-- the address of a struct's box from block n on -/
def IsBox (n : Nat) (v : Value) (w : World) : Prop := ∃ g, v = .pointer (some ⟨g, 0, none⟩) ∧ n ≤ g ∧ Box3 w g
theorem IsBox.ext {n m : Nat} {v : Value} {w w' : World} (h : IsBox n v w) (hE : Ext m w w') : IsBox n v w' := by
  obtain ⟨g, rfl, hn, hb⟩ := h
  refine ⟨g, rfl, hn, ?_⟩
  have hl := hb.lt
  rcases hE.2 g hl with e | ⟨_, h⟩
  · obtain ⟨u, v, x, h⟩ := hb; exact ⟨u, v, x, e.trans h⟩
  · exact h
/-- the box at p holds the struct v -/
def Holds (w : World) (p v : Value) : Prop := ∃ g a b c, p = .pointer (some ⟨g, 0, none⟩) ∧ v = .agg #[a, b, c] ∧ w.heap[g]? = some (.cells #[a, b, c] 25 (0, 0))
theorem Holds.below {w w' : World} {p v : Value} (h : Holds w p v) (hb : Below w.heap.size w w') : Holds w' p v := by
  obtain ⟨g, a, b, c, rfl, rfl, h⟩ := h
  exact ⟨g, a, b, c, rfl, rfl, carry h hb⟩
theorem Holds.set3 {w : World} {p v : Value} {g : Nat} (h : Holds w p v) (hp : p ≠ .pointer (some ⟨g, 0, none⟩)) (x y z : Value) : Holds (((w.setCell ⟨g, 0, none⟩ x).setCell ⟨g, 1, none⟩ y).setCell ⟨g, 2, none⟩ z) p v := by
  obtain ⟨g', a, b, c, rfl, rfl, h⟩ := h
  refine ⟨g', a, b, c, rfl, rfl, (set3_off (fun e => ?_) _ _ _).trans h⟩
  subst e; exact hp rfl
theorem Holds.new {w : World} {g : Nat} (h : Box3 w g) (x y z : Value) : Holds (((w.setCell ⟨g, 0, none⟩ x).setCell ⟨g, 1, none⟩ y).setCell ⟨g, 2, none⟩ z) (.pointer (some ⟨g, 0, none⟩)) (.agg #[x, y, z]) := by
  obtain ⟨u, v, t, h⟩ := h
  exact ⟨g, x, y, z, rfl, rfl, set3_at h _ _ _⟩
def ZR : Obj := .cells #[.bool false, .slice none 0 0, .slice none 0 0] 25
theorem newB3 (w : World) : Box3 (w.alloc (.cells #[.bool false, .slice none 0 0, .slice none 0 0] 25)) w.heap.size := ⟨_, _, _, heap_alloc_new w _⟩
theorem box_ne {w : World} {n : Nat} {v : Value} (h : IsBox n v w) : v ≠ .pointer (some ⟨w.heap.size, 0, none⟩) := by
  obtain ⟨g, rfl, _, hb⟩ := h
  intro e
  injection e with e; injection e with e; injection e with e
  have := hb.lt
  omega
/-- two boxes that are laid and filled meanwhile: 'ia', 'ib' lay them into the slots ta, tb, 'ja', 'jb' store the slots va, vb -/
def PairX (ia ib ja jb ta tb va vb : Nat) (D : Nat → Bool) (f : Nat → Value) (w : World) : Prop :=
  (D ia = true → D ib = true → f ta ≠ f tb) ∧ (D ja = true → Holds w (f ta) (f va)) ∧ (D jb = true → Holds w (f tb) (f vb))
theorem hp_at {P : Nat → Prop} {l : List Nat} (h : ∀ k ∈ l, P k) (k : Nat) (hk : l.contains k = true) : P k := h k (by simpa using hk)
theorem no_of {D : Nat → Bool} {l : List Nat} {j k : Nat} (hcl : D j = true → ∀ k ∈ l, D k = true) (hk : l.contains k = true) (h : D k = false) : ¬ D j = true := by
  intro hj
  have := hcl hj k (by simpa using hk)
  rw [h] at this; cases this
end Go.Proofs.YtdcnkebcpaelpaaGreatDoor
/- Two numbers that a law holds, and two results in boxes of their own. -/
namespace Go.Proofs.YtdcnkebcpaelpaaGreatDoor
open Go.RowKit

/-- the law's two structs, cut, at a world of the walk -/
structure TwoW (w W : World) (s t : Bool) (ao : Option Addr) (n ca : Nat) (bo : Option Addr) (m cb : Nat) (po : Option Addr) (l cl : Nat) (qo : Option Addr) (j cj : Nat) (p q : Rat) (k : Nat) : Prop where
  x : W.heap[w.heap.size]? = some (.cells #[.bool s, .slice ao n ca, .slice bo m cb] 25 (0, 0))
  y : W.heap[w.heap.size + 1]? = some (.cells #[.bool t, .slice po l cl, .slice qo j cj] 25 (0, 0))
  p : RQ W s ao n ca bo m cb p k
  q : RQ W t po l cl qo j cj q k
  b : Below w.heap.size w W
theorem TwoW.below {w W W' : World} {s t : Bool} {ao : Option Addr} {n ca : Nat} {bo : Option Addr} {m cb : Nat} {po : Option Addr} {l cl : Nat} {qo : Option Addr} {j cj : Nat} {p q : Rat} {k : Nat} (h : TwoW w W s t ao n ca bo m cb po l cl qo j cj p q k) (hb : Below W.heap.size W W') : TwoW w W' s t ao n ca bo m cb po l cl qo j cj p q k :=
  ⟨carry h.x hb, carry h.y hb, h.p.below hb, h.q.below hb, h.b.trans (hb.mono h.b.size)⟩
theorem TwoW.lt {w W : World} {s t : Bool} {ao : Option Addr} {n ca : Nat} {bo : Option Addr} {m cb : Nat} {po : Option Addr} {l cl : Nat} {qo : Option Addr} {j cj : Nat} {p q : Rat} {k : Nat} (h : TwoW w W s t ao n ca bo m cb po l cl qo j cj p q k) : w.heap.size + 1 < W.heap.size := (Array.getElem?_eq_some_iff.1 h.y).1
theorem TwoW.base {w W W' : World} {s t : Bool} {ao : Option Addr} {n ca : Nat} {bo : Option Addr} {m cb : Nat} {po : Option Addr} {l cl : Nat} {qo : Option Addr} {j cj : Nat} {p q : Rat} {k : Nat} (h : TwoW w W s t ao n ca bo m cb po l cl qo j cj p q k) (hb : Below W.heap.size W W') : TwoW w W' s t ao n ca bo m cb po l cl qo j cj p q k := h.below hb
/-- behind the second statement: both results lie in boxes of their own -/
def PairCut (w : World) (s t : Bool) (ao : Option Addr) (n ca : Nat) (bo : Option Addr) (m cb : Nat) (po : Option Addr) (l cl : Nat) (qo : Option Addr) (j cj : Nat) (p q : Rat) (k : Nat) (q1 q2 : Rat) (l1 l2 : Nat) (v5 v6 : Value) (W : World) : Prop :=
  TwoW w W s t ao n ca bo m cb po l cl qo j cj p q k ∧ ∃ g5 g6 s5 a5 n5 c5 o5 m5 d5 s6 a6 n6 c6 o6 m6 d6, v5 = .pointer (some ⟨g5, 0, none⟩) ∧ v6 = .pointer (some ⟨g6, 0, none⟩) ∧
    W.heap[g5]? = some (.cells #[.bool s5, .slice a5 n5 c5, .slice o5 m5 d5] 25 (0, 0)) ∧ W.heap[g6]? = some (.cells #[.bool s6, .slice a6 n6 c6, .slice o6 m6 d6] 25 (0, 0)) ∧
    CQ 0 W s5 a5 n5 c5 o5 m5 d5 q1 l1 ∧ CQ 0 W s6 a6 n6 c6 o6 m6 d6 q2 l2
theorem pair_cut {w W : World} {s t : Bool} {ao : Option Addr} {n ca : Nat} {bo : Option Addr} {m cb : Nat} {po : Option Addr} {l cl : Nat} {qo : Option Addr} {j cj : Nat} {p q : Rat} {k : Nat} {q1 q2 : Rat} {l1 l2 : Nat} {v5 v6 u5 u6 : Value} (h : TwoW w W s t ao n ca bo m cb po l cl qo j cj p q k) (h5 : Holds W v5 u5) (h6 : Holds W v6 u6) (i5 : IsQ q1 l1 u5 W) (i6 : IsQ q2 l2 u6 W) : PairCut w s t ao n ca bo m cb po l cl qo j cj p q k q1 q2 l1 l2 v5 v6 W := by
  obtain ⟨g5, a, b, c, rfl, rfl, e5⟩ := h5
  obtain ⟨g6, a', b', c', rfl, rfl, e6⟩ := h6
  obtain ⟨s5, a5, n5, c5, o5, m5, d5, e, c5'⟩ := i5
  obtain ⟨s6, a6, n6, c6, o6, m6, d6, e', c6'⟩ := i6
  injection e with e; injection e with e; injection e' with e'; injection e' with e'
  simp only [List.cons.injEq, and_true] at e e'
  obtain ⟨rfl, rfl, rfl⟩ := e
  obtain ⟨rfl, rfl, rfl⟩ := e'
  exact ⟨h, g5, g6, _, _, _, _, _, _, _, _, _, _, _, _, _, _, rfl, rfl, e5, e6, c5', c6'⟩
/-- what the second statement's operations yield -/
def PairR (n : Nat) (x y : Value) (q1 q2 : Rat) (l1 l2 : Nat) : Nat → Value → World → Prop
  | 0 => fun v _ => v = x
  | 1 => fun v _ => v = y
  | 2 => IsQ q1 l1
  | 3 => fun v _ => v = x
  | 4 => fun v _ => v = y
  | 5 => IsQ q2 l2
  | 6 => IsBox n
  | 7 => IsBox n
  | _ => fun _ _ => True
theorem PairR.ext {n m : Nat} {x y : Value} {q1 q2 : Rat} {l1 l2 : Nat} (i : Nat) (v : Value) (w w' : World) (h : PairR n x y q1 q2 l1 l2 i v w) (hE : Ext m w w') : PairR n x y q1 q2 l1 l2 i v w' := by
  match i, h with
  | 0, h => exact h
  | 1, h => exact h
  | 2, h => exact IsQ.ext h hE
  | 3, h => exact h
  | 4, h => exact h
  | 5, h => exact IsQ.ext h hE
  | 6, h => exact IsBox.ext h hE
  | 7, h => exact IsBox.ext h hE
  | _ + 8, h => exact h
end Go.Proofs.YtdcnkebcpaelpaaGreatDoor
/- Two results in boxes of their own, of calls with two arguments. -/
namespace Go.Proofs.YtdcnkebcpaelpaaGreatDoor
open Go.RowKit

theorem RQ.self {w : World} {s : Bool} {ao : Option Addr} {n ca : Nat} {bo : Option Addr} {m cb : Nat} {q : Rat} {k : Nat} (h : RQ w s ao n ca bo m cb q k) : rq s (rn q) q.den = q := by
  obtain ⟨N, D, _, _, _, _, hq, _⟩ := h
  have hr := rs_rq (s := s) (N := N) (dn_pos D)
  have hn := rn_rq (s := s) (N := N) (dn_pos D)
  rw [← hn, hq] at hr
  by_cases h0 : 0 < rn q
  · rw [decide_eq_true h0, Bool.and_true] at hr
    rw [← hr]; exact rq_self q
  · have h1 : rn q = 0 := by omega
    have h2 := rq_self q
    rw [h1] at h2 ⊢
    refine Eq.trans ?_ h2
    unfold rq
    rw [sg_zero, sg_zero]
/-- what the second statement's operations yield -/
def PairS (n : Nat) (u0 u1 u3 u4 : Value) (q1 q2 : Rat) (l1 l2 : Nat) : Nat → Value → World → Prop
  | 0 => fun v _ => v = u0
  | 1 => fun v _ => v = u1
  | 2 => IsQ q1 l1
  | 3 => fun v _ => v = u3
  | 4 => fun v _ => v = u4
  | 5 => IsQ q2 l2
  | 6 => IsBox n
  | 7 => IsBox n
  | _ => fun _ _ => True
theorem PairS.ext {n m : Nat} {u0 u1 u3 u4 : Value} {q1 q2 : Rat} {l1 l2 : Nat} (i : Nat) (v : Value) (w w' : World) (h : PairS n u0 u1 u3 u4 q1 q2 l1 l2 i v w) (hE : Ext m w w') : PairS n u0 u1 u3 u4 q1 q2 l1 l2 i v w' := by
  match i, h with
  | 0, h => exact h
  | 1, h => exact h
  | 2, h => exact IsQ.ext h hE
  | 3, h => exact h
  | 4, h => exact h
  | 5, h => exact IsQ.ext h hE
  | 6, h => exact IsBox.ext h hE
  | 7, h => exact IsBox.ext h hE
  | _ + 8, h => exact h
end Go.Proofs.YtdcnkebcpaelpaaGreatDoor
