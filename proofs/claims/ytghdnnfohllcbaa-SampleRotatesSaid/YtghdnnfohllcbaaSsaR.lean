import Derived.Test.YtghdnnfohllcbaaSmpAw
import Derived.Test.YtghdnnfohllcbaaRotQ
/- Drawn regions with guarded operations that are wanted: the step's goal is wrapped (WpO), so that no tactic unfolds it and asks the guard. -/
namespace Go.Proofs.Ytghdnnfohllcbaa.S10
open Go.RowKit Go.Sort C6 SN
section
variable {P : Program} {ops : Array Oper} {Q : Exit → Act → World → Prop}
theorem wpOp_guarded {i : Nat} {o : Oper} {K : Act → World → Prop} {a : Act} {dsts : List Nat} {f : Nat → Value} {w : World} (j s : Nat) (b : Bool) (ho : ops[i]? = some o) (hg : o.guard = some (j, b)) (hj : (ops[j]?).bind (·.dst) = some s)
    (hs : dsts.contains s = true) (hl : Nat.blt s a.tmps.size = true) (hf : f s = .bool b) (h : ∀ K' : Act → World → Prop, (∀ a w, K a w → K' a w) → Oper.wp P o (putAll a dsts f) w K' Q) : wpOp P ops Q i K (putAll a dsts f) w := by
  have hm : s ∈ dsts := by simpa using hs
  have hl' : s < a.tmps.size := by simpa [Nat.blt_eq] using hl
  have hy : yielded ops (putAll a dsts f).tmps j = some b := by
    unfold yielded
    rw [hj]
    show (match (putAll a dsts f).tmps[s]? with | some (.bool b) => some b | _ => none) = some b
    rw [putAll_get, Array.getElem?_eq_getElem hl', Option.map_some, if_pos hm, hf]
  have hw : Region.wanted o (yielded ops (putAll a dsts f).tmps) = true := by
    unfold Region.wanted
    rw [hg]
    show (yielded ops (putAll a dsts f).tmps j == some b) = true
    rw [hy]
    simp
  unfold wpOp
  rw [ho]
  show if Region.wanted o (yielded ops (putAll a dsts f).tmps) = true then _ else _
  rw [if_pos hw]
  exact .inl (h K (fun _ _ h => h))
/-- an operation's goal, wrapped -/
structure WpO (P : Program) (ops : Array Oper) (Q : Exit → Act → World → Prop) (i : Nat) (K : Act → World → Prop) (a : Act) (w : World) : Prop where
  out : wpOp P ops Q i K a w
theorem WpO.step {i : Nat} {o : Oper} {K : Act → World → Prop} {a : Act} {w : World} (ho : ops[i]? = some o)
    (h : ∀ K' : Act → World → Prop, (∀ a w, K a w → K' a w) → if Region.wanted o (yielded ops a.tmps) = true then Oper.wp P o a w K' Q else K' (a.put o.dst undef) w) : WpO P ops Q i K a w := ⟨wpOp_step ho h⟩
theorem WpO.guarded {i : Nat} {o : Oper} {K : Act → World → Prop} {a : Act} {dsts : List Nat} {f : Nat → Value} {w : World} (j s : Nat) (b : Bool) (ho : ops[i]? = some o) (hg : o.guard = some (j, b)) (hj : (ops[j]?).bind (·.dst) = some s)
    (hs : dsts.contains s = true) (hl : Nat.blt s a.tmps.size = true) (hf : f s = .bool b) (h : ∀ K' : Act → World → Prop, (∀ a w, K a w → K' a w) → Oper.wp P o (putAll a dsts f) w K' Q) : WpO P ops Q i K (putAll a dsts f) w := ⟨wpOp_guarded j s b ho hg hj hs hl hf h⟩
def StepG (P : Program) (md : Region.Mode) (ops : Array Oper) (Q : Exit → Act → World → Prop) (F : (Nat → Value) → Act) (Bs : World → Prop) (E : World → World → Prop) (R : Nat → Value → World → Prop) (X : (Nat → Bool) → (Nat → Value) → World → Prop) (i : Nat) : Prop :=
  ∀ D f w, D i = false → Bs w → (∀ k, k < ops.size → D k = true → R k (opval ops f k) w) → (∀ k ∈ pre md ops i, D k = true ∧ R k (opval ops f k) w) → (∀ j, D j = true → ∀ k ∈ pre md ops j, D k = true) → X D f w →
    WpO P ops Q i (fun a' w' => ∃ v, a' = (F f).put ((ops[i]?).bind (·.dst)) v ∧ R i (opdv ops i v) w' ∧ E w w' ∧ X (upd D i) (updv ops f i v) w') (F f) w
theorem stepG_below {md : Region.Mode} {F : (Nat → Value) → Act} {Bs : World → Prop} {E : World → World → Prop} {R : Nat → Value → World → Prop} {X : (Nat → Bool) → (Nat → Value) → World → Prop} {n : Nat} (h : AllF (StepG P md ops Q F Bs E R X) 0 n) : AllBelow (StepAt P md ops Q F Bs E R X) n := by
  have key : ∀ m i, AllF (StepG P md ops Q F Bs E R X) i m → AllF (StepAt P md ops Q F Bs E R X) i m := by
    intro m
    induction m with
    | zero => intro _ _; trivial
    | succ m ih => intro i h; exact ⟨fun D f w h1 h2 h3 h4 h5 h6 => (h.1 D f w h1 h2 h3 h4 h5 h6).out, ih _ h.2⟩
  exact (key n 0 h).below
end

def RLs (l : List (Value → World → Prop)) (i : Nat) (v : Value) (w : World) : Prop := (l.getD i (fun _ _ => True)) v w
def kVal (x : Value) : Value → World → Prop := fun v _ => v = x
def StB (p : Value → World → Prop) : Prop := ∀ v w w', p v w → Below w.heap.size w w' → p v w'
theorem StB.val (x : Value) : StB (kVal x) := fun _ _ _ h _ => h
/-- a row of one's own that holds a list -/
def kInts (l : List Int) : Value → World → Prop := fun v w => ∃ a n c, v = .slice a n c ∧ n = l.length ∧ w.ownsRow 0 3 1 (.slice a n c) n (intz l)
theorem StB.ints (l : List Int) : StB (kInts l) := by
  rintro v w w' ⟨a, n, c, h1, h2, h3⟩ hE
  exact ⟨a, n, c, h1, h2, row_below h3 hE⟩
def StBL : List (Value → World → Prop) → Prop
  | [] => True
  | p :: l => StB p ∧ StBL l
theorem StBL.all : ∀ {l : List (Value → World → Prop)}, StBL l → ∀ p ∈ l, StB p
  | [], _, p, hp => by simp at hp
  | q :: l, h, p, hp => by
    rcases List.mem_cons.1 hp with rfl | hp
    · exact h.1
    · exact h.2.all p hp
theorem RLs.stB {l : List (Value → World → Prop)} (h : ∀ p ∈ l, StB p) (i : Nat) (v : Value) (w w' : World) (hr : RLs l i v w) (hE : Below w.heap.size w w') : RLs l i v w' := by
  unfold RLs at hr ⊢
  rw [List.getD] at hr ⊢
  cases hg : l[i]? with
  | none => trivial
  | some p =>
    rw [hg] at hr
    exact h p (List.mem_of_getElem? hg) v w w' hr hE
theorem same_rows (W : World) (a b : Option Addr) (n m c d : Nat) (l : List Int) (hn : n = l.length) (hm : m = l.length) (h1 : W.ownsRow 0 3 1 (.slice a n c) n (intz l)) (h2 : W.ownsRow 0 3 1 (.slice b m d) m (intz l)) :
    Calls Try.prog 14 #[.slice a n c, .slice b m d] W fun e w' => e = .returned (.bool true) ∧ Below W.heap.size W w' := by
  have := SameInts_v a b c d l l W (rdz_row hn.symm h1) (rdz_row hm.symm h2)
  rw [decide_eq_true (rfl : l = l), ← hn] at this
  rw [hm, ← hn]
  exact this
end Go.Proofs.Ytghdnnfohllcbaa.S10
