import Derived.Test.YtmhjimcdiglpcaaGreatDoorDrC
import Derived.Test.YtmhjimcdiglpcaaGreatDoorNums
import Derived.Test.YtmhjimcdiglpcaaGreatDoorPairs
/- Lists of numbers held against each other; at most twelve raw sizes. -/
namespace Go.Proofs.YtmhjimcdiglpcaaGreatDoor.Dr
open Go.RowKit Go.Sort C6

theorem Inc.at {w : World} {N : Nat} {rs : List RV} {Q : Nat → Rat} (h : Inc w N rs (fun u => some (Q u))) {i : Nat} (hi : i < N) : CQ 0 w (rs.getD i RV.nil).s (rs.getD i RV.nil).ao (rs.getD i RV.nil).n (rs.getD i RV.nil).ca (rs.getD i RV.nil).bo (rs.getD i RV.nil).m (rs.getD i RV.nil).cb (Q i) 2 := h.2 i hi _ rfl
theorem RdN.below {w w' : World} {a : Option Addr} {c N : Nat} {Q : Nat → Rat} (h : RdN w a c N Q) (b : Below w.heap.size w w') : RdN w' a c N Q := by
  obtain ⟨rs, h1, h2, h3⟩ := h
  exact ⟨rs, h1, h2.below b, h3.below b⟩
end Go.Proofs.YtmhjimcdiglpcaaGreatDoor.Dr
/- Drawn regions by values, where a slot is read before the region writes it: what the slots hold at first is known. -/
namespace Go.Proofs.YtmhjimcdiglpcaaGreatDoor
open Go.RowKit

section
variable {P : Program} {ops : Array Oper} {Q : Exit → Act → World → Prop} {md : Region.Mode}
theorem region_ssa2 (dsts : List Nat) (Bs : World → Prop) (E : World → World → Prop) (R : Nat → Value → World → Prop) (X : (Nat → Bool) → (Nat → Value) → World → Prop) {a : Act} {w0 : World} {F : (Nat → Value) → Act} (hF : ∀ f, putAll a dsts f = F f)
    (hb : backs md ops = true) (hd : apartDsts ops dsts = true) (hw : Bs w0) (hX : X (fun _ => false) (fun t => a.tmps.getD t undef) w0)
    (hst : ∀ i v w w', Bs w → R i v w → E w w' → R i v w') (hbs : ∀ w w', Bs w → E w w' → Bs w')
    (hstep : AllBelow (StepAt P md ops Q F Bs E R X) ops.size)
    (hdone : ∀ D f w, (∀ i, i < ops.size → D i = true) → Bs w → (∀ i, i < ops.size → R i (opval ops f i) w) → X D f w → Q .normal (F f) w) :
    wpAny P md ops Q ops.size (Array.replicate ops.size false) a w0 := by
  refine region_steps dsts (fun D f w => Bs w ∧ (∀ i, i < ops.size → D i = true → R i (opval ops f i) w) ∧ X D f w) hb ⟨hw, (fun _ _ h => by cases h), hX⟩ ?_ ?_
  · rintro i hi D f w hDi hpre hcl ⟨hB, hR, hX⟩
    rw [hF]
    have hall : ∀ k ∈ pre md ops i, k < i := by
      have h := hb
      unfold backs at h
      rw [List.all_eq_true] at h
      have h2 := h i (List.mem_range.2 hi)
      rw [List.all_eq_true] at h2
      exact fun k hk => of_decide_eq_true (h2 k hk)
    refine wpOp_mono ?_ (hstep.at i hi D f w hDi hB hR (fun k hk => ⟨hpre k hk, hR k (Nat.lt_trans (hall k hk) hi) (hpre k hk)⟩) hcl hX)
    rintro a' w' ⟨v, rfl, hv, hE, hX'⟩
    have hB' := hbs _ _ hB hE
    unfold apartDsts at hd
    rw [List.all_eq_true] at hd
    have hdi := hd i (List.mem_range.2 hi)
    have hold : ∀ j, j < ops.size → upd D i j = true → j ≠ i → R j (opval ops f j) w' := by
      intro j hj hDj hji
      refine hst _ _ _ _ hB (hR j hj ?_) hE
      unfold upd at hDj
      have : Nat.beq j i = false := by rw [Bool.eq_false_iff]; exact fun e => hji (Nat.eq_of_beq_eq_true e)
      simpa [this] using hDj
    unfold updv at hX'
    unfold opdv at hv
    cases hdst : (ops[i]?).bind (·.dst) with
    | none =>
      rw [hdst] at hv hX'
      refine ⟨f, by rw [← hF]; rfl, hB', ?_, hX'⟩
      intro j hj hDj
      by_cases hji : j = i
      · subst hji
        have : opval ops f j = undef := by unfold opval; rw [hdst]
        rw [this]; exact hv
      · exact hold j hj hDj hji
    | some t =>
      rw [hdst] at hv hdi hX'
      simp only [Bool.and_eq_true, List.all_eq_true, Bool.or_eq_true, beq_iff_eq] at hdi
      refine ⟨setf f t v, by rw [← hF]; exact putAll_put (by simpa using hdi.1) v, hB', ?_, hX'⟩
      intro j hj hDj
      by_cases hji : j = i
      · subst hji
        have : opval ops (setf f t v) j = v := by unfold opval; rw [hdst]; simp [setf]
        rw [this]; exact hv
      · have hne := (hdi.2 j (List.mem_range.2 hj)).resolve_left hji
        have : opval ops (setf f t v) j = opval ops f j := by
          unfold opval
          cases hdj : (ops[j]?).bind (·.dst) with
          | none => rfl
          | some u =>
            rw [hdj] at hne
            have hut : u ≠ t := fun e => by subst e; simp at hne
            have : Nat.beq u t = false := by rw [Bool.eq_false_iff]; exact fun e => hut (Nat.eq_of_beq_eq_true e)
            simp [setf, this]
        rw [this]
        exact hold j hj hDj hji
  · rintro D f w hD ⟨hB, hR, hX⟩
    rw [hF]
    exact hdone D f w hD hB (fun i hi => hR i hi (hD i hi)) hX
end
end Go.Proofs.YtmhjimcdiglpcaaGreatDoor
/- Sizes of a tape, and a number of units. -/
namespace Go.Proofs.YtmhjimcdiglpcaaGreatDoor.Dr
open Go.RowKit Go.Sort C6 SN

/-- all blocks but B and the row's own are as they were -/
def EB (B : Nat) (v : Value) (w w' : World) : Prop := w'.os = w.os ∧ w'.tape = w.tape ∧ w'.output = w.output ∧ w.heap.size ≤ w'.heap.size ∧ ∀ b, b < w.heap.size → b ≠ B → v.ownBlock ≠ some b → w'.heap[b]? = w.heap[b]?
theorem EB.refl (B : Nat) (v : Value) (w : World) : EB B v w w := ⟨rfl, rfl, rfl, Nat.le_refl _, fun _ _ _ _ => rfl⟩
theorem EB.trans {B : Nat} {v : Value} {a b c : World} (h : EB B v a b) (k : EB B v b c) : EB B v a c :=
  ⟨k.1.trans h.1, k.2.1.trans h.2.1, k.2.2.1.trans h.2.2.1, Nat.le_trans h.2.2.2.1 k.2.2.2.1, fun x h1 h2 h3 => (k.2.2.2.2 x (Nat.lt_of_lt_of_le h1 h.2.2.2.1) h2 h3).trans (h.2.2.2.2 x h1 h2 h3)⟩
theorem EB.of_below {B : Nat} {v : Value} {w w' : World} (h : Below w.heap.size w w') : EB B v w w' := ⟨h.os, h.tape, h.output, h.size, fun b hb _ _ => h.block b hb⟩
theorem EB.of_gb {B : Nat} {v : Value} {w w' : World} (h : w.grownBy w' (some B)) : EB B v w w' := ⟨h.os, h.tape, h.output, h.size, fun b hb hn _ => h.block b hb (fun e => hn (Option.some.inj e))⟩
theorem EB.of_row {B : Nat} {v : Value} {w w' : World} (h : w.grownBy w' v.ownBlock) : EB B v w w' := ⟨h.os, h.tape, h.output, h.size, fun b hb _ hn => h.block b hb (fun e => hn e.symm)⟩
theorem rdv_eb {w w' : World} {B : Nat} {v : Value} {ao : Option Addr} {cap : Nat} {vs : List Value} (h : RdV w ao cap vs) (hb : 0 < vs.length → ∀ b o, ao = some ⟨b, o, none⟩ → b < B) (hv : ∀ k, v.ownBlock = some k → B < k) (e : EB B v w w') : RdV w' ao cap vs := by
  refine ⟨h.1, h.2.1, ?_⟩
  rcases h.2.2 with hn | ⟨bk, o, e0, hc⟩
  · exact .inl hn
  · refine .inr ⟨bk, o, e0, fun i v' hi => ?_⟩
    have hl : 0 < vs.length := by have := (List.getElem?_eq_some_iff.1 hi).1; omega
    have h1 := hc i v' hi
    have hlt := World.block_lt_of_cell? _ _ h1
    have hB := hb hl bk o e0
    exact (World.cell?_of_block (a := ⟨bk, o + i, none⟩) (e.2.2.2.2 bk hlt (by omega) (fun q => by have := hv bk q; omega))).trans h1
theorem row7 {w : World} {g : Nat} {t : TypeId} (h : w.heap[g]? = some (.cells #[.int .i64 1, .int .i64 2, .int .i64 3, .int .i64 5, .int .i64 10, .int .i64 50, .int .i64 400] t (0, 0))) {i : Nat} (hi : i < 7) : ∃ x : Int, w.cell? ⟨g, i, none⟩ = some (.int .i64 x) ∧ 1 ≤ x ∧ x ≤ 400 := by
  have : i = 0 ∨ i = 1 ∨ i = 2 ∨ i = 3 ∨ i = 4 ∨ i = 5 ∨ i = 6 := by omega
  rcases this with rfl | rfl | rfl | rfl | rfl | rfl | rfl
  · exact ⟨1, by simp [World.cell?, h], by omega⟩
  · exact ⟨2, by simp [World.cell?, h], by omega⟩
  · exact ⟨3, by simp [World.cell?, h], by omega⟩
  · exact ⟨5, by simp [World.cell?, h], by omega⟩
  · exact ⟨10, by simp [World.cell?, h], by omega⟩
  · exact ⟨50, by simp [World.cell?, h], by omega⟩
  · exact ⟨400, by simp [World.cell?, h], by omega⟩
/-- the row with one more size -/
def RowAt (M n : Nat) (xs : List Int) (v : Value) (w : World) : Prop := ∃ a c y, v = .slice a (n + 1) c ∧ 1 ≤ y ∧ y ≤ 402 ∧ w.ownsRow M 2 1 (.slice a (n + 1) c) (n + 1) (intz (xs ++ [y]))
def XM (B : Nat) (ao : Option Addr) (l cap i M : Nat) (v : Value) (n : Nat) (xs : List Int) (d3 d7 d10 d11 : Bool) (f20 f4 : Value) (w : World) : Prop :=
  Tap w B ao l cap (bif d7 then i + 1 + 1 else bif d3 then i + 1 else i) ∧ (d10 = false → w.ownsRow M 2 1 v n (intz xs)) ∧ (d10 = true → RowAt M n xs f20 w) ∧ (d11 = true → RowAt M n xs f4 w) ∧ (d11 = false → f4 = v)
theorem XM.below {B : Nat} {ao : Option Addr} {l cap i M : Nat} {v : Value} {n : Nat} {xs : List Int} {d3 d7 d10 d11 : Bool} {f20 f4 : Value} {w w' : World} (h : XM B ao l cap i M v n xs d3 d7 d10 d11 f20 f4 w) (b : Below w.heap.size w w') : XM B ao l cap i M v n xs d3 d7 d10 d11 f20 f4 w' := by
  obtain ⟨h1, h2, h3, h4, h5⟩ := h
  refine ⟨h1.keep b, fun h => row_below (h2 h) b, fun h => ?_, fun h => ?_, h5⟩
  · obtain ⟨a, c, y, e, y1, y2, hr⟩ := h3 h
    exact ⟨a, c, y, e, y1, y2, row_below hr b⟩
  · obtain ⟨a, c, y, e, y1, y2, hr⟩ := h4 h
    exact ⟨a, c, y, e, y1, y2, row_below hr b⟩
theorem infoI64 : (Tryz.prog.info? 2).map (fun i => (i.zero, i.size, i.bytes)) = some (some (.int .i64 0), 1, 8) := by kernel_rfl
/-- what made gives -/
def MadePost (B : Nat) (to' : Option Addr) (l tc i : Nat) (w : World) (e : Ending) (w' : World) : Prop := ∃ a c xs k, e = .returned (.tuple #[.slice a xs.length c, .int .i64 (k : Int)]) ∧ 1 ≤ xs.length ∧ xs.length ≤ 8 ∧ (∀ x ∈ xs, 1 ≤ x ∧ x ≤ 402) ∧ 1 ≤ k ∧ k ≤ xs.length ∧ RdZ w' a c xs ∧ w.grownBy w' (some B) ∧ ∃ j, j ≤ i + 20 ∧ Tap w' B to' l tc j ∧ (0 < xs.length → ∀ b o, a = some ⟨b, o, none⟩ → b ≠ B)

def PM (W : World) (B : Nat) (v : Value) : List (Value → World → Prop) := [fun u _ => u = v, fun u w => ∃ g, u = .slice (some ⟨g, 0, none⟩) 7 7 ∧ W.heap.size ≤ g ∧ w.heap[g]? = some (.cells #[.int .i64 1, .int .i64 2, .int .i64 3, .int .i64 5, .int .i64 10, .int .i64 50, .int .i64 400] 3 (0, 0)), fun u _ => u = .pointer (some ⟨B, 0, none⟩), fun u _ => ∃ q : Nat, q < 7 ∧ u = .int .i64 (q : Int), fun u w => ∃ g q x, u = .pointer (some ⟨g, q, none⟩) ∧ W.heap.size ≤ g ∧ w.cell? ⟨g, q, none⟩ = some (.int .i64 x) ∧ 1 ≤ x ∧ x ≤ 400, fun u _ => ∃ x, u = .int .i64 x ∧ 1 ≤ x ∧ x ≤ 400, fun u _ => u = .pointer (some ⟨B, 0, none⟩), fun u _ => ∃ q : Nat, q < 3 ∧ u = .int .i64 (q : Int), fun u _ => ∃ y, u = .int .i64 y ∧ 1 ≤ y ∧ y ≤ 402, fun u w => ∃ g y, u = .slice (some ⟨g, 0, none⟩) 1 1 ∧ W.heap.size ≤ g ∧ w.heap[g]? = some (.cells #[.int .i64 y] 2 (0, 0)) ∧ 1 ≤ y ∧ y ≤ 402, fun _ _ => True, fun _ _ => True]
theorem PM.st {W : World} {B : Nat} {v : Value} (hB : B < W.heap.size) (hv : ∀ k, v.ownBlock = some k → k < W.heap.size) : ∀ p ∈ PM W B v, ∀ u w w', p u w → EB B v w w' → p u w' := by
  have blk : ∀ {g : Nat} {w w' : World}, W.heap.size ≤ g → g < w.heap.size → EB B v w w' → w'.heap[g]? = w.heap[g]? := fun hg hl e => e.2.2.2.2 _ hl (by omega) (fun q => by have := hv _ q; omega)
  intro p hp
  unfold PM at hp
  simp only [List.mem_cons, List.not_mem_nil, or_false] at hp
  rcases hp with rfl | rfl | rfl | rfl | rfl | rfl | rfl | rfl | rfl | rfl | rfl | rfl
  · intro u w w' h _; exact h
  · rintro u w w' ⟨g, h1, h2, h3⟩ e
    exact ⟨g, h1, h2, (blk h2 (Array.getElem?_eq_some_iff.1 h3).1 e).trans h3⟩
  · intro u w w' h _; exact h
  · intro u w w' h _; exact h
  · rintro u w w' ⟨g, q, x, h1, h2, h3, h4⟩ e
    exact ⟨g, q, x, h1, h2, (World.cell?_of_block (a := ⟨g, q, none⟩) (blk h2 (World.block_lt_of_cell? _ _ h3) e)).trans h3, h4⟩
  · intro u w w' h _; exact h
  · intro u w w' h _; exact h
  · intro u w w' h _; exact h
  · intro u w w' h _; exact h
  · rintro u w w' ⟨g, y, h1, h2, h3, h4⟩ e
    exact ⟨g, y, h1, h2, (blk h2 (Array.getElem?_eq_some_iff.1 h3).1 e).trans h3, h4⟩
  · intro u w w' h _; exact h
  · intro u w w' h _; exact h
def LsE (l : List (Value → World → Prop)) (i : Nat) (v : Value) (w : World) : Prop := (l.getD i (fun _ _ => True)) v w
theorem LsE.ext {E : World → World → Prop} {l : List (Value → World → Prop)} (h : ∀ p ∈ l, ∀ u w w', p u w → E w w' → p u w') (i : Nat) (v : Value) (w w' : World) (hr : LsE l i v w) (hE : E w w') : LsE l i v w' := by
  unfold LsE at hr ⊢
  rw [List.getD] at hr ⊢
  cases hg : l[i]? with
  | none => trivial
  | some p =>
    rw [hg] at hr
    exact h p (List.mem_of_getElem? hg) v w w' hr hE

end Go.Proofs.YtmhjimcdiglpcaaGreatDoor.Dr
