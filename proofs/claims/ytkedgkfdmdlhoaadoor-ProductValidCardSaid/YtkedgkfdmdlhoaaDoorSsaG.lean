import Derived.Test.YtkedgkfdmdlhoaaDoorSsaT
/- Drawn regions with guarded operations that are wanted: the step's goal is wrapped (WpO), so that no tactic unfolds it and asks the guard. -/
namespace Go.Proofs.YtkedgkfdmdlhoaaDoor.P9
open Go.RowKit
section
variable {P : Program} {ops : Array Oper} {Q : Exit → Act → World → Prop}
theorem wpOp_guarded {i : Nat} {o : Oper} {K : Act → World → Prop} {a : Act} {dsts : List Nat} {f : Nat → Value} {w : World} (j s : Nat) (b : Bool) (ho : ops[i]? = some o) (hg : o.guard = some (j, b)) (hj : (ops[j]?).bind (·.dst) = some s)
    (hs : dsts.contains s = true) (hl : Nat.blt s a.tmps.size = true) (hf : f s = .bool b) (h : ∀ K' : Act → World → Prop, (∀ a w, K a w → K' a w) → Oper.wp P o (putAll a dsts f) w K' Q) : wpOp P ops Q i K (putAll a dsts f) w := by
  have hm : s ∈ dsts := by simpa using hs
  have hl' : s < a.tmps.size := by simpa [Nat.blt_eq] using hl
  have hy : yielded ops (putAll a dsts f).tmps j = some b := by
    unfold yielded
    rw [hj]
    show (match (putAll a dsts f).tmps[s]? with | some (.bool b) => some b | _ => none) = some b
    rw [putAll_get, Array.getElem?_eq_getElem hl', Option.map_some, if_pos hm, hf]
  have hw : Region.wanted o (yielded ops (putAll a dsts f).tmps) = true := by
    unfold Region.wanted
    rw [hg]
    show (yielded ops (putAll a dsts f).tmps j == some b) = true
    rw [hy]
    simp
  unfold wpOp
  rw [ho]
  show if Region.wanted o (yielded ops (putAll a dsts f).tmps) = true then _ else _
  rw [if_pos hw]
  exact .inl (h K (fun _ _ h => h))
/-- an operation's goal, wrapped -/
structure WpO (P : Program) (ops : Array Oper) (Q : Exit → Act → World → Prop) (i : Nat) (K : Act → World → Prop) (a : Act) (w : World) : Prop where
  out : wpOp P ops Q i K a w
theorem WpO.step {i : Nat} {o : Oper} {K : Act → World → Prop} {a : Act} {w : World} (ho : ops[i]? = some o)
    (h : ∀ K' : Act → World → Prop, (∀ a w, K a w → K' a w) → if Region.wanted o (yielded ops a.tmps) = true then Oper.wp P o a w K' Q else K' (a.put o.dst undef) w) : WpO P ops Q i K a w := ⟨wpOp_step ho h⟩
theorem WpO.guarded {i : Nat} {o : Oper} {K : Act → World → Prop} {a : Act} {dsts : List Nat} {f : Nat → Value} {w : World} (j s : Nat) (b : Bool) (ho : ops[i]? = some o) (hg : o.guard = some (j, b)) (hj : (ops[j]?).bind (·.dst) = some s)
    (hs : dsts.contains s = true) (hl : Nat.blt s a.tmps.size = true) (hf : f s = .bool b) (h : ∀ K' : Act → World → Prop, (∀ a w, K a w → K' a w) → Oper.wp P o (putAll a dsts f) w K' Q) : WpO P ops Q i K (putAll a dsts f) w := ⟨wpOp_guarded j s b ho hg hj hs hl hf h⟩
def StepG (P : Program) (md : Region.Mode) (ops : Array Oper) (Q : Exit → Act → World → Prop) (F : (Nat → Value) → Act) (Bs : World → Prop) (E : World → World → Prop) (R : Nat → Value → World → Prop) (X : (Nat → Bool) → (Nat → Value) → World → Prop) (i : Nat) : Prop :=
  ∀ D f w, D i = false → Bs w → (∀ k, k < ops.size → D k = true → R k (opval ops f k) w) → (∀ k ∈ pre md ops i, D k = true ∧ R k (opval ops f k) w) → (∀ j, D j = true → ∀ k ∈ pre md ops j, D k = true) → X D f w →
    WpO P ops Q i (fun a' w' => ∃ v, a' = (F f).put ((ops[i]?).bind (·.dst)) v ∧ R i (opdv ops i v) w' ∧ E w w' ∧ X (upd D i) (updv ops f i v) w') (F f) w
theorem stepG_below {md : Region.Mode} {F : (Nat → Value) → Act} {Bs : World → Prop} {E : World → World → Prop} {R : Nat → Value → World → Prop} {X : (Nat → Bool) → (Nat → Value) → World → Prop} {n : Nat} (h : AllF (StepG P md ops Q F Bs E R X) 0 n) : AllBelow (StepAt P md ops Q F Bs E R X) n := by
  have key : ∀ m i, AllF (StepG P md ops Q F Bs E R X) i m → AllF (StepAt P md ops Q F Bs E R X) i m := by
    intro m
    induction m with
    | zero => intro _ _; trivial
    | succ m ih => intro i h; exact ⟨fun D f w h1 h2 h3 h4 h5 h6 => (h.1 D f w h1 h2 h3 h4 h5 h6).out, ih _ h.2⟩
  exact (key n 0 h).below
end
end Go.Proofs.YtkedgkfdmdlhoaaDoor.P9
