import Derived.Test.YtffnmejabphabaaDoorCtx3
import Derived.Test.YtffnmejabphabaaDoorInvC
import Derived.Deep.CutBlock
/- Package calendar: dates read off a text. -/
namespace Go.Proofs.YtffnmejabphabaaDoor
open Go.RowKit Go.Sort

/-- block g is a box that holds a date -/
def DBox (w : World) (g : Nat) (y m d : Int) : Prop := w.heap[g]? = some (.cells #[.int .i64 y, .int .i64 m, .int .i64 d] 23 (0, 0))
theorem DBox.lt {w : World} {g : Nat} {y m d : Int} (h : DBox w g y m d) : g < w.heap.size := (Array.getElem?_eq_some_iff.1 h).1
theorem DBox.below {w w' : World} {g : Nat} {y m d : Int} (h : DBox w g y m d) (b : Below w.heap.size w w') : DBox w' g y m d := (b.block g h.lt).trans h
theorem DBox.new (w : World) (y m d : Int) : DBox (w.alloc (.cells #[.int .i64 y, .int .i64 m, .int .i64 d] 23)) w.heap.size y m d := by
  unfold DBox World.alloc
  simp
theorem DBox.set {w : World} {g : Nat} {y m d : Int} (h : DBox w g y m d) (y' m' d' : Int) : DBox (((w.setCell ⟨g, 0, none⟩ (.int .i64 y')).setCell ⟨g, 1, none⟩ (.int .i64 m')).setCell ⟨g, 2, none⟩ (.int .i64 d')) g y' m' d' := by
  unfold DBox at h ⊢
  simp [World.setCell, Array.getElem?_modify, h]
theorem DBox.off {w : World} {g g' : Nat} {y m d : Int} (h : DBox w g y m d) (hne : g ≠ g') (a b c : Value) : DBox (((w.setCell ⟨g', 0, none⟩ a).setCell ⟨g', 1, none⟩ b).setCell ⟨g', 2, none⟩ c) g y m d := by
  unfold DBox at h ⊢
  rw [Below.heap_setCell _ _ _ _ hne, Below.heap_setCell _ _ _ _ hne, Below.heap_setCell _ _ _ _ hne]
  exact h
theorem DBox.cells {w : World} {g : Nat} {y m d : Int} (h : DBox w g y m d) : (w.cell? ⟨g, 0, none⟩ = some (.int .i64 y) ∧ w.cell? ⟨g, 1, none⟩ = some (.int .i64 m) ∧ w.cell? ⟨g, 2, none⟩ = some (.int .i64 d)) ∧
    (w.frozen? ⟨g, 0, none⟩ = false ∧ w.frozen? ⟨g, 1, none⟩ = false ∧ w.frozen? ⟨g, 2, none⟩ = false) := by
  unfold DBox at h
  simp [World.cell?, World.frozen?, h]

/-- a date's box -/
def AnyD (w : World) (g : Nat) : Prop := ∃ y m d, DBox w g y m d
/-- blocks below n are as they were; of the others a date's box alone may turn -/
def ExtD (n : Nat) (w w' : World) : Prop := Below n w w' ∧ ∀ b, b < w.heap.size → w'.heap[b]? = w.heap[b]? ∨ (AnyD w b ∧ AnyD w' b)
theorem ExtD.of_below {n : Nat} {w w' : World} (h : Below w.heap.size w w') (hn : n ≤ w.heap.size) : ExtD n w w' := ⟨h.mono hn, fun b hb => .inl (h.block b hb)⟩
theorem ExtD.refl (n : Nat) (w : World) : ExtD n w w := ⟨Below.refl _ _, fun _ _ => .inl rfl⟩
def IsD (n : Nat) (v : Value) (w : World) : Prop := ∃ g, v = .pointer (some ⟨g, 0, none⟩) ∧ n ≤ g ∧ AnyD w g
theorem IsD.ext {n m : Nat} {v : Value} {w w' : World} (h : IsD n v w) (hE : ExtD m w w') : IsD n v w' := by
  obtain ⟨g, rfl, hn, hb⟩ := h
  refine ⟨g, rfl, hn, ?_⟩
  obtain ⟨y, m, d, hb⟩ := hb
  rcases hE.2 g hb.lt with e | ⟨_, h⟩
  · exact ⟨y, m, d, e.trans hb⟩
  · exact h
theorem hp_atc {P : Nat → Prop} {l : List Nat} (h : ∀ k ∈ l, P k) (k : Nat) (hk : l.contains k = true) : P k := h k (by simpa using hk)
theorem no_ofc {D : Nat → Bool} {l : List Nat} {j k : Nat} (hcl : D j = true → ∀ k ∈ l, D k = true) (hk : l.contains k = true) (h : D k = false) : ¬ D j = true := by
  intro hj
  have := hcl hj k (by simpa using hk)
  rw [h] at this; cases this
def Num1 (t : ByteArray) (v : Value) : Prop := ∃ x : Int, v = .int .i64 x ∧ ∀ n, Lib.atoi t.data.toList = some n → x = n
def Num3 (s : ByteArray) (v : Value) : Prop := ∃ x1 x2 x3 : Int, v = .agg #[.int .i64 x1, .int .i64 x2, .int .i64 x3] ∧ (∀ n, Lib.atoi (s.extract 0 4).data.toList = some n → x1 = n) ∧ (∀ n, Lib.atoi (s.extract 5 7).data.toList = some n → x2 = n) ∧ (∀ n, Lib.atoi (s.extract 8 10).data.toList = some n → x3 = n)
/-- what the region's operations yield -/
def DateR (n : Nat) (s : ByteArray) : Nat → Value → World → Prop
  | 0, v, _ => v = .string s
  | 1, v, _ => v = .string (s.extract 0 4)
  | 2, v, _ => Num1 (s.extract 0 4) v
  | 3, v, _ => v = .string s
  | 4, v, _ => v = .string (s.extract 5 7)
  | 5, v, _ => Num1 (s.extract 5 7) v
  | 6, v, _ => v = .string s
  | 7, v, _ => v = .string (s.extract 8 10)
  | 8, v, _ => Num1 (s.extract 8 10) v
  | 9, v, _ => Num3 s v
  | 10, v, w => IsD n v w
  | _, _, _ => True
theorem DateR.ext {n m : Nat} {s : ByteArray} (i : Nat) (v : Value) (w w' : World) (h : DateR n s i v w) (hE : ExtD m w w') : DateR n s i v w' := by
  match i, h with
  | 0, h => exact h
  | 1, h => exact h
  | 2, h => exact h
  | 3, h => exact h
  | 4, h => exact h
  | 5, h => exact h
  | 6, h => exact h
  | 7, h => exact h
  | 8, h => exact h
  | 9, h => exact h
  | 10, h => exact IsD.ext h hE
  | _ + 11, _ => trivial
def DateX (s : ByteArray) (D : Nat → Bool) (f : Nat → Value) (w : World) : Prop := D 11 = true → ∃ (g : Nat) (x1 x2 x3 : Int), f 4 = .pointer (some ⟨g, 0, none⟩) ∧ DBox w g x1 x2 x3 ∧ (∀ n, Lib.atoi (s.extract 0 4).data.toList = some n → x1 = n) ∧ (∀ n, Lib.atoi (s.extract 5 7).data.toList = some n → x2 = n) ∧ (∀ n, Lib.atoi (s.extract 8 10).data.toList = some n → x3 = n)

/-- what ParseDate has behind its three numbers: their box, and the result's -/
def PDr (w : World) (s : ByteArray) (v : Value) (wx : World) : Prop := ∃ (g : Nat) (v1 v2 v3 : Int), v = .pointer (some ⟨g, 0, none⟩) ∧ w.heap.size < g ∧ DBox wx g v1 v2 v3 ∧ DBox wx w.heap.size 0 0 0 ∧ Below w.heap.size w wx ∧
  (∀ n, Lib.atoi (s.extract 0 4).data.toList = some n → v1 = n) ∧ (∀ n, Lib.atoi (s.extract 5 7).data.toList = some n → v2 = n) ∧ (∀ n, Lib.atoi (s.extract 8 10).data.toList = some n → v3 = n)
theorem pieces10 {s : ByteArray} {k r i : Nat} (hi : i < 100) (hs : s.data.toList = perL k r ++ ([45] ++ tw i)) : Lib.atoi (s.extract 8 10).data.toList = some (i : Int) := by
  have e : (s.extract 8 10).data.toList = tw i := by
    have : (s.extract 8 10).data.toList = (s.data.toList.take 10).drop 8 := by
      simp only [ByteArray.data_extract, Array.toList_extract]
      rw [List.extract_eq_take_drop, List.drop_take]
    rw [this, hs]; rfl
  rw [e, atoi_two _ hi]
def ParseDayPost (s : ByteArray) (w : World) (e : Ending) (w' : World) : Prop := ∃ y m d x : Int, e = .returned (.tuple #[.agg #[.int .i64 y, .int .i64 m, .int .i64 d], .int .i64 x]) ∧ DayOf s y m d x ∧ Below w.heap.size w w'

set_option maxHeartbeats 16000000 in
theorem ParseDate_v (s : ByteArray) (w : World) (htab : Tab w) (hev : ErrV w) : Calls Tryd.prog 44 #[.string s] w (ParseDayPost s w) := by
  have B0 := below_new w (.cells #[.int .i64 0, .int .i64 0, .int .i64 0] 23)
  by_cases h10 : s.size = 10
  · have l1 := fun w h => loose_v (s.extract 0 4) (by simp; omega) w h
    have l2 := fun w h => loose_v (s.extract 5 7) (by simp; omega) w h
    have l3 := fun w h => loose_v (s.extract 8 s.size) (by simp; omega) w h
    rw [h10] at l3
    have L1 := Lib.hid l1
    have L2 := Lib.hid l2
    have L3 := Lib.hid l3
    obtain ⟨W1, hW1⟩ : ∃ W1, W1 = w.alloc (.cells #[.int .i64 0, .int .i64 0, .int .i64 0] 23) := ⟨_, rfl⟩
    have r1 : DBox W1 w.heap.size 0 0 0 := by rw [hW1]; exact DBox.new _ _ _ _
    rw [← hW1] at B0
    have E0 : ErrV W1 := hev.below B0
    have R1 := Lib.hid r1
    have HW := Lib.hid hW1
    have HT := Lib.hid htab
    have HS : w.heap.size < W1.heap.size := r1.lt
    clear l1 l2 l3 hW1 htab hev r1
    go_enter Tryd.func44, Tryd.ntmps44
    go_wp2_with fail
    rw [← HW.out]
    go_cut [4] from 5 to 24 (fun v4 wx => PDr w s v4 wx)
    case first =>
      refine wp_region_any (by kernel_rfl) ?_
      refine region_ssa [9, 10, 11, 12, 13, 14, 15, 16, 17, 18, 4] (Below W1.heap.size W1) (ExtD W1.heap.size) (DateR W1.heap.size s) (DateX s) (fun f => rfl) (by kernel_rfl) (by kernel_rfl) ?_ ?_ ?_ ?_ ⟨⟨⟨⟨⟨⟨⟨⟨⟨⟨⟨⟨trivial, ?_⟩, ?_⟩, ?_⟩, ?_⟩, ?_⟩, ?_⟩, ?_⟩, ?_⟩, ?_⟩, ?_⟩, ?_⟩, ?_⟩ ?_
      · exact (Below.refl _ _).drew
      · intro f h; cases h
      · intro i v w1 w2 _ h hE; exact DateR.ext i v w1 w2 h hE
      · intro w1 w2 hB hE; exact hB.trans hE.1
      · intro D f w1 hD hB hR hp hcl hX
        refine wpOp_step rfl (fun K hK => ?_)
        simp only [putAll, Act.put, List.setIfInBounds_toArray, List.set_cons_succ, List.set_cons_zero]
        go_simp
        exact hK _ _ ⟨.string s, (by show _ = Act.put _ (some 9) _; simp only [putAll, Act.put, List.setIfInBounds_toArray, List.set_cons_succ, List.set_cons_zero, *]), rfl, ExtD.refl _ _, fun h => absurd h (no_ofc (D := D) (hcl 11) (by kernel_rfl) hD)⟩
      · intro D f w1 hD hB hR hp hcl hX
        have e1 : f 9 = .string s := (hp_atc hp 0 (by kernel_rfl)).2
        refine wpOp_step rfl (fun K hK => ?_)
        simp only [putAll, Act.put, List.setIfInBounds_toArray, List.set_cons_succ, List.set_cons_zero]
        go_simp
        exact hK _ _ ⟨.string (s.extract 0 4), (by show _ = Act.put _ (some 10) _; simp only [putAll, Act.put, List.setIfInBounds_toArray, List.set_cons_succ, List.set_cons_zero, *]), rfl, ExtD.refl _ _, fun h => absurd h (no_ofc (D := D) (hcl 11) (by kernel_rfl) hD)⟩
      · intro D f w1 hD hB hR hp hcl hX
        have e1 : f 10 = .string (s.extract 0 4) := (hp_atc hp 1 (by kernel_rfl)).2
        refine wpOp_step rfl (fun K hK => ?_)
        simp only [putAll, Act.put, List.setIfInBounds_toArray, List.set_cons_succ, List.set_cons_zero]
        go_simp
        refine (L1.out _ (E0.below hB)).mono ?_
        rintro e w2 ⟨v, rfl, hv, hb⟩
        go_simp
        exact hK _ _ ⟨.int .i64 v, (by show _ = Act.put _ (some 11) _; simp only [putAll, Act.put, List.setIfInBounds_toArray, List.set_cons_succ, List.set_cons_zero, *]), ⟨v, rfl, hv⟩, ExtD.of_below hb hB.size, fun h => absurd h (no_ofc (D := D) (hcl 11) (by kernel_rfl) hD)⟩
      · intro D f w1 hD hB hR hp hcl hX
        refine wpOp_step rfl (fun K hK => ?_)
        simp only [putAll, Act.put, List.setIfInBounds_toArray, List.set_cons_succ, List.set_cons_zero]
        go_simp
        exact hK _ _ ⟨.string s, (by show _ = Act.put _ (some 12) _; simp only [putAll, Act.put, List.setIfInBounds_toArray, List.set_cons_succ, List.set_cons_zero, *]), rfl, ExtD.refl _ _, fun h => absurd h (no_ofc (D := D) (hcl 11) (by kernel_rfl) hD)⟩
      · intro D f w1 hD hB hR hp hcl hX
        have e1 : f 12 = .string s := (hp_atc hp 3 (by kernel_rfl)).2
        refine wpOp_step rfl (fun K hK => ?_)
        simp only [putAll, Act.put, List.setIfInBounds_toArray, List.set_cons_succ, List.set_cons_zero]
        go_simp
        exact hK _ _ ⟨.string (s.extract 5 7), (by show _ = Act.put _ (some 13) _; simp only [putAll, Act.put, List.setIfInBounds_toArray, List.set_cons_succ, List.set_cons_zero, *]), rfl, ExtD.refl _ _, fun h => absurd h (no_ofc (D := D) (hcl 11) (by kernel_rfl) hD)⟩
      · intro D f w1 hD hB hR hp hcl hX
        have e1 : f 13 = .string (s.extract 5 7) := (hp_atc hp 4 (by kernel_rfl)).2
        refine wpOp_step rfl (fun K hK => ?_)
        simp only [putAll, Act.put, List.setIfInBounds_toArray, List.set_cons_succ, List.set_cons_zero]
        go_simp
        refine (L2.out _ (E0.below hB)).mono ?_
        rintro e w2 ⟨v, rfl, hv, hb⟩
        go_simp
        exact hK _ _ ⟨.int .i64 v, (by show _ = Act.put _ (some 14) _; simp only [putAll, Act.put, List.setIfInBounds_toArray, List.set_cons_succ, List.set_cons_zero, *]), ⟨v, rfl, hv⟩, ExtD.of_below hb hB.size, fun h => absurd h (no_ofc (D := D) (hcl 11) (by kernel_rfl) hD)⟩
      · intro D f w1 hD hB hR hp hcl hX
        refine wpOp_step rfl (fun K hK => ?_)
        simp only [putAll, Act.put, List.setIfInBounds_toArray, List.set_cons_succ, List.set_cons_zero]
        go_simp
        exact hK _ _ ⟨.string s, (by show _ = Act.put _ (some 15) _; simp only [putAll, Act.put, List.setIfInBounds_toArray, List.set_cons_succ, List.set_cons_zero, *]), rfl, ExtD.refl _ _, fun h => absurd h (no_ofc (D := D) (hcl 11) (by kernel_rfl) hD)⟩
      · intro D f w1 hD hB hR hp hcl hX
        have e1 : f 15 = .string s := (hp_atc hp 6 (by kernel_rfl)).2
        refine wpOp_step rfl (fun K hK => ?_)
        simp only [putAll, Act.put, List.setIfInBounds_toArray, List.set_cons_succ, List.set_cons_zero]
        go_simp
        exact hK _ _ ⟨.string (s.extract 8 10), (by show _ = Act.put _ (some 16) _; simp only [putAll, Act.put, List.setIfInBounds_toArray, List.set_cons_succ, List.set_cons_zero, *]), rfl, ExtD.refl _ _, fun h => absurd h (no_ofc (D := D) (hcl 11) (by kernel_rfl) hD)⟩
      · intro D f w1 hD hB hR hp hcl hX
        have e1 : f 16 = .string (s.extract 8 10) := (hp_atc hp 7 (by kernel_rfl)).2
        refine wpOp_step rfl (fun K hK => ?_)
        simp only [putAll, Act.put, List.setIfInBounds_toArray, List.set_cons_succ, List.set_cons_zero]
        go_simp
        refine (L3.out _ (E0.below hB)).mono ?_
        rintro e w2 ⟨v, rfl, hv, hb⟩
        go_simp
        exact hK _ _ ⟨.int .i64 v, (by show _ = Act.put _ (some 17) _; simp only [putAll, Act.put, List.setIfInBounds_toArray, List.set_cons_succ, List.set_cons_zero, *]), ⟨v, rfl, hv⟩, ExtD.of_below hb hB.size, fun h => absurd h (no_ofc (D := D) (hcl 11) (by kernel_rfl) hD)⟩
      · intro D f w1 hD hB hR hp hcl hX
        obtain ⟨x1, e1, n1⟩ := (hp_atc hp 2 (by kernel_rfl)).2
        obtain ⟨x2, e2, n2⟩ := (hp_atc hp 5 (by kernel_rfl)).2
        obtain ⟨x3, e3, n3⟩ := (hp_atc hp 8 (by kernel_rfl)).2
        replace e1 : f 11 = _ := e1
        replace e2 : f 14 = _ := e2
        replace e3 : f 17 = _ := e3
        refine wpOp_step rfl (fun K hK => ?_)
        simp only [putAll, Act.put, List.setIfInBounds_toArray, List.set_cons_succ, List.set_cons_zero]
        go_simp
        exact hK _ _ ⟨.agg #[.int .i64 x1, .int .i64 x2, .int .i64 x3], (by show _ = Act.put _ (some 18) _; simp only [putAll, Act.put, List.setIfInBounds_toArray, List.set_cons_succ, List.set_cons_zero, *]), ⟨x1, x2, x3, rfl, n1, n2, n3⟩, ExtD.refl _ _, fun h => absurd h (no_ofc (D := D) (hcl 11) (by kernel_rfl) hD)⟩
      · intro D f w1 hD hB hR hp hcl hX
        refine wpOp_step rfl (fun K hK => ?_)
        simp only [putAll, Act.put, List.setIfInBounds_toArray, List.set_cons_succ, List.set_cons_zero]
        go_simp
        exact hK _ _ ⟨.pointer (some ⟨w1.heap.size, 0, none⟩), (by show _ = Act.put _ (some 4) _; simp only [putAll, Act.put, List.setIfInBounds_toArray, List.set_cons_succ, List.set_cons_zero, *]), ⟨w1.heap.size, rfl, hB.size, _, _, _, DBox.new _ _ _ _⟩, ExtD.of_below (below_new _ _) hB.size, fun h => absurd h (no_ofc (D := D) (hcl 11) (by kernel_rfl) hD)⟩
      · intro D f w1 hD hB hR hp hcl hX
        obtain ⟨g, eg, hg, y0, m0, d0, hb⟩ := (hp_atc hp 10 (by kernel_rfl)).2
        obtain ⟨x1, x2, x3, ev, n1, n2, n3⟩ := (hp_atc hp 9 (by kernel_rfl)).2
        replace eg : f 4 = _ := eg
        replace ev : f 18 = _ := ev
        obtain ⟨⟨q0, q1, q2⟩, z0, z1, z2⟩ := hb.cells
        refine wpOp_step rfl (fun K hK => ?_)
        simp only [putAll, Act.put, List.setIfInBounds_toArray, List.set_cons_succ, List.set_cons_zero]
        go_simp
        exact hK _ _ ⟨undef, (by show _ = Act.put _ (none) _; simp only [putAll, Act.put, List.setIfInBounds_toArray, List.set_cons_succ, List.set_cons_zero, *]), trivial, ⟨((((Below.refl _ _).setCell (by show W1.heap.size ≤ g; exact hg) _).setCell (by show W1.heap.size ≤ g; exact hg) _).setCell (by show W1.heap.size ≤ g; exact hg) _), fun b _ => by
          by_cases e : b = g
          · subst e; exact .inr ⟨⟨_, _, _, hb⟩, ⟨_, _, _, hb.set _ _ _⟩⟩
          · left; rw [Below.heap_setCell _ _ _ _ e, Below.heap_setCell _ _ _ _ e, Below.heap_setCell _ _ _ _ e]⟩, fun _ => ⟨g, x1, x2, x3, eg, hb.set _ _ _, n1, n2, n3⟩⟩
      · intro D f w1 hall hB hR hX
        obtain ⟨g, x1, x2, x3, eg, hb, n1, n2, n3⟩ := hX (hall 11 (by decide))
        obtain ⟨g', eg', hg', _⟩ := hR 10 (by decide)
        replace eg' : f 4 = _ := eg'
        simp only [putAll, Act.put, List.setIfInBounds_toArray, List.set_cons_succ, List.set_cons_zero]
        go_wp2_with fail
        go_meet
        exact ⟨g, x1, x2, x3, eg, by rw [eg] at eg'; cases eg'; omega, hb, (hB.block w.heap.size HS).trans R1.out, B0.trans (hB.mono B0.size), n1, n2, n3⟩
    case rest =>
      obtain ⟨g, v1, v2, v3, rfl, hg, hb, hr, B, n1, n2, n3⟩ := hcut
      obtain ⟨⟨q0, q1, q2⟩, z0, z1, z2⟩ := hb.cells
      have HB := Lib.hid hb
      have HR := Lib.hid hr
      have TB : Tab wc := HT.out.below B
      by_cases hm : ∃ k r i : Nat, k < 500 ∧ r < 12 ∧ 1 ≤ i ∧ (i : Int) ≤ mlI (1900 + (k : Int)) ((r : Int) + 1) ∧ s = dayT k r i
      · obtain ⟨k, r, i, hk, hr', hi, hml, hs⟩ := hm
        have hmb := mlI_bd (1900 + (k : Int)) ((r : Int) + 1)
        have hl : s.data.toList = perL k r ++ ([45] ++ tw i) := by rw [hs]; rfl
        have e1 := n1 _ (pieces4 hk hl)
        have e2 := n2 _ (pieces7 hr' hl)
        have e3 := n3 _ (pieces10 (show i < 100 by omega) hl)
        have hf := FormatDate_in k r i hk hr' hi hml
        rw [← hs, ← e1, ← e2, ← e3] at hf
        have HF := Lib.hid hf
        have HP : Hid (∀ w', Below w.heap.size w w' → ParseDayPost s w (.returned (.tuple #[.agg #[.int .i64 v1, .int .i64 v2, .int .i64 v3], .int .i64 0])) w') := fun w' b => ⟨v1, v2, v3, 0, rfl, .inl ⟨k, r, i, hk, hr', hi, hml, hs, e1, e2, e3, rfl⟩, b⟩
        clear hl e1 e2 e3 hf hs n1 n2 n3 hb hr hmb hml
        go_wp2_with fail
        refine (HF.out _ TB).mono ?_; rintro e w5 ⟨rfl, b5⟩
        have B5 := B.trans (b5.mono B.size)
        obtain ⟨⟨j0, j1, j2⟩, y0, y1, y2⟩ := (HR.out.below b5).cells
        obtain ⟨⟨k0, k1, k2⟩, _⟩ := (HB.out.below b5).cells
        go_wp2_with fail
        refine bodyPost_ret (v := .tuple #[.agg #[.int .i64 v1, .int .i64 v2, .int .i64 v3], .int .i64 0]) (by simp [results, Tryd.results44, go_sem, j0, j1, j2]) rfl ?_
        exact HP.out _ (((B5.setCell (Nat.le_refl _) _).setCell (Nat.le_refl _) _).setCell (Nat.le_refl _) _)
      · have HP : Hid (∀ w', Below w.heap.size w w' → ParseDayPost s w (.returned (.tuple #[.agg #[.int .i64 0, .int .i64 0, .int .i64 0], .int .i64 54])) w') := fun w' b => ⟨0, 0, 0, 54, rfl, .inr ⟨fun k r i hk hr hi hml e => hm ⟨k, r, i, hk, hr, hi, hml, e⟩, rfl, rfl, rfl, rfl⟩, b⟩
        have HF : Hid (∀ w, Tab w → Calls Tryd.prog 39 #[.agg #[.int .i64 v1, .int .i64 v2, .int .i64 v3]] w fun e w' => ∃ T : ByteArray, e = .returned (.string T) ∧ T ≠ s ∧ Below w.heap.size w w') := fun w h => by
          cases hv : vdI v1 v2 v3
          · exact (FormatDate_out v1 v2 v3 hv w).mono fun e w' ⟨h1, h2⟩ => ⟨_, h1, (fun e => by rw [← e] at h10; simp [ByteArray.size] at h10), h2⟩
          · obtain ⟨k, r, hk, hr, e1, e2, h1, h2⟩ := vd_true hv
            obtain ⟨i, hi⟩ := Int.eq_ofNat_of_zero_le (show 0 ≤ v3 by omega)
            subst e1 e2 hi
            exact (FormatDate_in k r i hk hr (by omega) h2 w h).mono fun e w' ⟨h3, h4⟩ => ⟨_, h3, fun e => hm ⟨k, r, i, hk, hr, by omega, h2, e.symm⟩, h4⟩
        clear hm n1 n2 n3 hb hr
        go_wp2_with fail
        refine (HF.out _ TB).mono ?_; rintro e w5 ⟨T, rfl, hT, b5⟩
        have hne := ne_text hT
        have B5 := B.trans (b5.mono B.size)
        obtain ⟨⟨j0, j1, j2⟩, y0, y1, y2⟩ := (HR.out.below b5).cells
        clear hT
        go_wp2_with fail
        refine bodyPost_ret (v := .tuple #[.agg #[.int .i64 0, .int .i64 0, .int .i64 0], .int .i64 54]) (by simp [results, Tryd.results44, go_sem, j0, j1, j2]) rfl ?_
        first | exact HP.out _ (((B5.setCell (Nat.le_refl _) _).setCell (Nat.le_refl _) _).setCell (Nat.le_refl _) _) | exact HP.out _ B5
  · have HP : Hid (∀ w', Below w.heap.size w w' → ParseDayPost s w (.returned (.tuple #[.agg #[.int .i64 0, .int .i64 0, .int .i64 0], .int .i64 54])) w') := fun w' b => ⟨0, 0, 0, 54, rfl, .inr ⟨fun k r i _ _ _ _ e => h10 (by rw [e]; rfl), rfl, rfl, rfl, rfl⟩, b⟩
    have hd : ((s.size : Int) == 10) = false := beq_eq_false_iff_ne.2 (by omega)
    have hd2 : ((s.size : Int) != 10) = true := by rw [bne, hd]; rfl
    go_enter Tryd.func44, Tryd.ntmps44
    go_wp2_with fail
    refine bodyPost_ret (v := .tuple #[.agg #[.int .i64 0, .int .i64 0, .int .i64 0], .int .i64 54]) (by simp [results, Tryd.results44, go_sem]) rfl ?_
    exact HP.out _ B0
end Go.Proofs.YtffnmejabphabaaDoor
