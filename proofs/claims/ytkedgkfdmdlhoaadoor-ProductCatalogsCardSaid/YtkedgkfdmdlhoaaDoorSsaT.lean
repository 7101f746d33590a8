import Derived.Test.YtkedgkfdmdlhoaaDoorInvC
import Derived.Test.YtkedgkfdmdlhoaaDoorPrd2
/- Layer 9: drawn regions of functions over a tape that build products: what operations yield, what they do to the world. -/
namespace Go.Proofs.YtkedgkfdmdlhoaaDoor.P9
open Go.RowKit Go.Sort C6

/-- each from i on, m of them, one after the other -/
def AllF (S : Nat → Prop) : Nat → Nat → Prop
  | _, 0 => True
  | i, m + 1 => S i ∧ AllF S (i + 1) m
theorem AllF.step {S : Nat → Prop} {i m j : Nat} (hj : i + 1 = j) (h : S i) (t : AllF S j m) : AllF S i (m + 1) := by subst hj; exact ⟨h, t⟩
theorem AllF.at {S : Nat → Prop} : ∀ (m i : Nat), AllF S i m → ∀ k, i ≤ k → k < i + m → S k := by
  intro m
  induction m with
  | zero => intro i _ k h1 h2; omega
  | succ m ih =>
    intro i h k h1 h2
    by_cases hk : k = i
    · subst hk; exact h.1
    · exact ih (i + 1) h.2 k (by omega) (by omega)
theorem AllF.below {S : Nat → Prop} {n : Nat} (h : AllF S 0 n) : AllBelow S n := by
  have : ∀ m, m ≤ n → AllBelow S m := by
    intro m
    induction m with
    | zero => intro _; trivial
    | succ m ih => intro hm; exact ⟨ih (by omega), h.at n 0 m (by omega) (by omega)⟩
  exact this n (Nat.le_refl _)
theorem hpAt {P : Nat → Prop} {l : List Nat} (h : ∀ k ∈ l, P k) (k : Nat) (hk : l.contains k = true) : P k := h k (by simpa using hk)
theorem noOf {D : Nat → Bool} {l : List Nat} {j k : Nat} (hcl : D j = true → ∀ k ∈ l, D k = true) (hk : l.contains k = true) (h : D k = false) : ¬ D j = true := by
  intro hj
  have := hcl hj k (by simpa using hk)
  rw [h] at this
  cases this
theorem noF {D : Nat → Bool} {l : List Nat} {j k : Nat} (hcl : D j = true → ∀ k ∈ l, D k = true) (hk : l.contains k = true) (h : D k = false) : D j = false := by
  cases hd : D j
  · rfl
  · exact absurd hd (noOf hcl hk h)

/-- a product's box, whatever it holds -/
def Bx (w : World) (g : Nat) : Prop := ∃ p v, PB w g p v
/-- all is as it was but for the tape's block B and for products' boxes from N on -/
structure Ex (B N : Nat) (w w' : World) : Prop where
  os : w'.os = w.os
  tape : w'.tape = w.tape
  output : w'.output = w.output
  size : w.heap.size ≤ w'.heap.size
  block : ∀ b, b < w.heap.size → b ≠ B → w'.heap[b]? = w.heap[b]? ∨ (N ≤ b ∧ Bx w b ∧ Bx w' b)
theorem Ex.refl (B N : Nat) (w : World) : Ex B N w w := ⟨rfl, rfl, rfl, Nat.le_refl _, fun _ _ _ => .inl rfl⟩
theorem Ex.trans {B N : Nat} {w w' w'' : World} (h : Ex B N w w') (k : Ex B N w' w'') : Ex B N w w'' := by
  refine ⟨k.os.trans h.os, k.tape.trans h.tape, k.output.trans h.output, Nat.le_trans h.size k.size, fun b hb hne => ?_⟩
  have h1 := h.block b hb hne
  have h2 := k.block b (Nat.lt_of_lt_of_le hb h.size) hne
  rcases h1 with h1 | ⟨hN, h1a, h1b⟩
  · rcases h2 with h2 | ⟨hN, h2a, h2b⟩
    · exact .inl (h2.trans h1)
    · refine .inr ⟨hN, ?_, h2b⟩
      obtain ⟨p, v, e⟩ := h2a
      exact ⟨p, v, h1.symm.trans e⟩
  · rcases h2 with h2 | ⟨_, h2a, h2b⟩
    · refine .inr ⟨hN, h1a, ?_⟩
      obtain ⟨p, v, e⟩ := h1b
      exact ⟨p, v, h2.trans e⟩
    · exact .inr ⟨hN, h1a, h2b⟩
theorem Ex.of_gb {B N : Nat} {w w' : World} (h : w.grownBy w' (some B)) : Ex B N w w' := ⟨h.os, h.tape, h.output, h.size, fun b hb hne => .inl (h.block b hb (fun e => hne (Option.some.inj e)))⟩
theorem Ex.of_below {B N : Nat} {w w' : World} (h : Below w.heap.size w w') : Ex B N w w' := ⟨h.os, h.tape, h.output, h.size, fun b hb _ => .inl (h.block b hb)⟩
theorem Ex.alloc {B N : Nat} (w : World) (o : Obj) : Ex B N w (w.alloc o) := Ex.of_below (below_new w o)
theorem Ex.drew {B N : Nat} {w w' : World} (h : Ex B N w w') (n : Nat) : Ex B N w (w'.drewN n) := ⟨h.os, h.tape, h.output, h.size, h.block⟩
theorem Ex.box {B N : Nat} {w w' : World} {g : Nat} (h : w.grownBy w' (some g)) (hN : N ≤ g) (h1 : Bx w g) (h2 : Bx w' g) : Ex B N w w' := by
  refine ⟨h.os, h.tape, h.output, h.size, fun b hb _ => ?_⟩
  by_cases e : b = g
  · subst e; exact .inr ⟨hN, h1, h2⟩
  · exact .inl (h.block b hb (fun q => e (Option.some.inj q)))
/-- a block that is no product's box -/
theorem Ex.row {B N : Nat} {w w' : World} (h : Ex B N w w') {g : Nat} {cs : Array Value} {t : TypeId} (ht : t ≠ 26) (hB : g ≠ B) (hr : w.heap[g]? = some (.cells cs t (0, 0))) : w'.heap[g]? = some (.cells cs t (0, 0)) := by
  have hl : g < w.heap.size := (Array.getElem?_eq_some_iff.1 hr).1
  rcases h.block g hl hB with e | ⟨_, ⟨p, v, e⟩, _⟩
  · exact e.trans hr
  · unfold PB at e
    rw [e] at hr
    cases hr
    exact absurd rfl ht
theorem Ex.old {B N : Nat} {w w' : World} (h : Ex B N w w') {b : Nat} (hb : b < w.heap.size) (hB : b ≠ B) (hN : b < N) : w'.heap[b]? = w.heap[b]? := by
  rcases h.block b hb hB with e | ⟨h1, _⟩
  · exact e
  · omega
theorem Ex.rd {B N : Nat} {w w' : World} (h : Ex B N w w') {ao : Option Addr} {cap : Nat} {vs : List Value} (hr : RdV w ao cap vs) (hb : 0 < vs.length → ∀ b o, ao = some ⟨b, o, none⟩ → b < B) (hBN : B ≤ N) : RdV w' ao cap vs := by
  refine ⟨hr.1, hr.2.1, ?_⟩
  rcases hr.2.2 with hn | ⟨b, o, e, hc⟩
  · exact .inl hn
  · refine .inr ⟨b, o, e, fun i v hi => ?_⟩
    have hl : 0 < vs.length := by have := (List.getElem?_eq_some_iff.1 hi).1; omega
    have hbB := hb hl b o e
    have h1 := hc i v hi
    have hlt : b < w.heap.size := World.block_lt_of_cell? _ _ h1
    have := h.old hlt (show b ≠ B by omega) (by omega)
    exact (World.cell?_of_block (a := ⟨b, o + i, none⟩) this).trans h1
theorem Ex.gb {B N : Nat} {w w' : World} (h : Ex B N w w') (hN : w.heap.size ≤ N) : w.grownBy w' (some B) := ⟨h.os, h.tape, h.output, h.size, fun b hb hne => h.old hb (fun e => hne (by rw [e])) (by omega)⟩
def Stab (B N : Nat) (p : Value → World → Prop) : Prop := ∀ v w w', p v w → Ex B N w w' → p v w'
def RLs (l : List (Value → World → Prop)) (i : Nat) (v : Value) (w : World) : Prop := (l.getD i (fun _ _ => True)) v w
theorem RLs.stab {B N : Nat} {l : List (Value → World → Prop)} (h : ∀ p ∈ l, Stab B N p) (i : Nat) (v : Value) (w w' : World) (hr : RLs l i v w) (hE : Ex B N w w') : RLs l i v w' := by
  unfold RLs at hr ⊢
  rw [List.getD] at hr ⊢
  cases hg : l[i]? with
  | none => trivial
  | some p =>
    rw [hg] at hr
    exact h p (List.mem_of_getElem? hg) v w w' hr hE
def kVal (x : Value) : Value → World → Prop := fun v _ => v = x
def kSat (q : Value → Prop) : Value → World → Prop := fun v _ => q v
def kAny : Value → World → Prop := fun _ _ => True
/-- a row of values of type t, n elements -/
def kRow (B n : Nat) (t : TypeId) (cs : Array Value) : Value → World → Prop := fun v w => ∃ g, v = .slice (some ⟨g, 0, none⟩) n n ∧ g ≠ B ∧ w.heap[g]? = some (.cells cs t (0, 0))
def kAt (B m : Nat) (t : TypeId) (cs : Array Value) : Value → World → Prop := fun v w => ∃ g r, v = .pointer (some ⟨g, r, none⟩) ∧ r < m ∧ g ≠ B ∧ w.heap[g]? = some (.cells cs t (0, 0))
def kBox (B N : Nat) : Value → World → Prop := fun v w => ∃ g, v = .pointer (some ⟨g, 0, none⟩) ∧ N ≤ g ∧ g ≠ B ∧ Bx w g
theorem Stab.val {B N : Nat} (x : Value) : Stab B N (kVal x) := fun _ _ _ h _ => h
theorem Stab.sat {B N : Nat} (q : Value → Prop) : Stab B N (kSat q) := fun _ _ _ h _ => h
theorem Stab.any {B N : Nat} : Stab B N kAny := fun _ _ _ _ _ => trivial
theorem Stab.row {B N n : Nat} {t : TypeId} (ht : t ≠ 26) (cs : Array Value) : Stab B N (kRow B n t cs) := by
  rintro v w w' ⟨g, h1, h2, h3⟩ hE
  exact ⟨g, h1, h2, hE.row ht h2 h3⟩
theorem Stab.at {B N m : Nat} {t : TypeId} (ht : t ≠ 26) (cs : Array Value) : Stab B N (kAt B m t cs) := by
  rintro v w w' ⟨g, r, h1, h2, h3, h4⟩ hE
  exact ⟨g, r, h1, h2, h3, hE.row ht h3 h4⟩
theorem Stab.box {B N M : Nat} : Stab B N (kBox B M) := by
  rintro v w w' ⟨g, h1, h2, h3, h4⟩ hE
  refine ⟨g, h1, h2, h3, ?_⟩
  have hl : g < w.heap.size := by obtain ⟨p, v, e⟩ := h4; exact e.lt
  rcases hE.block g hl h3 with e | ⟨_, _, h⟩
  · obtain ⟨p, u, e2⟩ := h4
    exact ⟨p, u, e.trans e2⟩
  · exact h
def StabL (B N : Nat) : List (Value → World → Prop) → Prop
  | [] => True
  | p :: l => Stab B N p ∧ StabL B N l
theorem StabL.all {B N : Nat} : ∀ {l : List (Value → World → Prop)}, StabL B N l → ∀ p ∈ l, Stab B N p
  | [], _, p, hp => by simp at hp
  | q :: l, h, p, hp => by
    rcases List.mem_cons.1 hp with rfl | hp
    · exact h.1
    · exact h.2.all p hp
end Go.Proofs.YtkedgkfdmdlhoaaDoor.P9
