/- NaturalApart: the walk (begun). -/
import Derived.Test.YtlgcflapgdkghabDoorNum4
import Derived.Test.YtlgcflapgdkghabDoorGcd5
import Derived.Test.YtlgcflapgdkghabDoorNum5
import Derived.Deep.AppendLies
namespace Go.Proofs.YtlgcflapgdkghabDoor
open Go.RowKit

theorem cell_at_heap {w : World} {b j : Nat} {cs : Array Value} {t : TypeId} {fr : Nat × Nat} {v : Value} (h : w.heap[b]? = some (.cells cs t fr)) (hj : cs[j]? = some v) : w.cell? ⟨b, j, none⟩ = some v := by
  simp [World.cell?, h, hj]
theorem room_of {w : World} {B : Nat} {v : Value} {xs : List Nat} (hl : Lims xs) (h : w.ownsRow B 31 1 v (xs.length + 2) (lits xs ++ [.int .u32 5, .int .u32 6])) :
    ∃ b c, B ≤ b ∧ v = .slice (some ⟨b, 0, none⟩) (xs.length + 2) c ∧ Fr B w (some ⟨b, 0, none⟩) c (xs ++ [5, 6]) ∧ xs.length + 2 ≤ c := by
  have h2 : Lims (xs ++ [5, 6]) := lims_append hl (lims_of_mem (fun x hx => by simp at hx; omega))
  have h3 : w.ownsRow B 31 1 v (xs ++ [5, 6]).length (lits (xs ++ [5, 6])) := by
    rw [lits_append, List.length_append]; exact h
  obtain ⟨ao, c, rfl, hf, _⟩ := Fr.of_row h3 h2
  obtain ⟨b, rfl, hB, _⟩ := hf.block (by simp)
  have hc := hf.1
  rw [List.length_append] at hc
  exact ⟨b, c, hB, by rw [List.length_append]; rfl, hf, hc⟩
theorem infoNat : (Tryd.prog.info? 23).map (fun i => (i.zero, i.size, i.bytes)) = some (some (.slice none 0 0), 1, 24) := by kernel_rfl
theorem three_new (w : World) (u v x : Value) (t : TypeId) : ∀ j y, [u, v, x][j]? = some y → (w.alloc (.cells #[u, v, x] t)).cell? ((⟨w.heap.size, 0, none⟩ : Addr).add j) = some y := by
  intro j y hj
  rw [Addr.add_lit]
  match j with
  | 0 => cases hj; exact cell_at_heap (heap_alloc_new w _) rfl
  | 1 => cases hj; exact cell_at_heap (heap_alloc_new w _) rfl
  | 2 => cases hj; exact cell_at_heap (heap_alloc_new w _) rfl
  | j + 3 => cases hj
theorem two_new (w : World) (u v : Value) (t : TypeId) : ∀ j x, [u, v][j]? = some x → (w.alloc (.cells #[u, v] t)).cell? ((⟨w.heap.size, 0, none⟩ : Addr).add j) = some x := by
  intro j x hj
  rw [Addr.add_lit]
  match j with
  | 0 => cases hj; exact cell_at_heap (heap_alloc_new w _) rfl
  | 1 => cases hj; exact cell_at_heap (heap_alloc_new w _) rfl
  | j + 2 => cases hj

theorem Own.setAny {w : World} {b : Nat} {cs : List Nat} (h : Own w b cs) (j x : Nat) : Own (w.setCell ⟨b, j, none⟩ (.int .u32 (x : Int))) b (cs.set j x) := by
  by_cases hj : j < cs.length
  · exact h.setCell hj x
  · rw [List.set_eq_of_length_le (by omega)]
    obtain ⟨cur, h1, h2, h3⟩ := h
    refine ⟨cur.setIfInBounds j (.int .u32 (x : Int)), ?_, by simpa using h2, ?_⟩
    · simp [World.setCell, Array.getElem?_modify, h1]
    · intro i hi
      rw [Array.getElem?_setIfInBounds, if_neg (by omega)]
      exact h3 i hi
/-- a result stays one where any cell of limbs is written -/
theorem Fr.setAny {B : Nat} {w : World} {ao : Option Addr} {cap : Nat} {xs : List Nat} (h : Fr B w ao cap xs) (b j x : Nat) (hx : x < 4294967296) : ∃ ys, ys.length = xs.length ∧ Fr B (w.setCell ⟨b, j, none⟩ (.int .u32 (x : Int))) ao cap ys := by
  obtain ⟨h1, h2, h3, h4⟩ := h
  rcases h4 with ⟨rfl, rfl, rfl⟩ | ⟨b', rfl, hB, hown⟩
  · exact ⟨[], rfl, Fr.nil _ _⟩
  · by_cases e : b' = b
    · subst e
      refine ⟨xs.set j x, List.length_set .., by rw [List.length_set]; exact h1, h2, lims_set h3 _ _ hx, .inr ⟨b', rfl, hB, hown.setAny j x⟩⟩
    · exact ⟨xs, rfl, h1, h2, h3, .inr ⟨b', rfl, hB, hown.block (Below.heap_setCell _ _ _ _ (fun q => e q))⟩⟩
/-- eight results -/
def ResA (B : Nat) (w : World) (A : Nat → Option Addr) (L C : Nat → Nat) : Prop := ∀ j, j < 8 → ∃ ys : List Nat, L j = ys.length ∧ Fr B w (A j) (C j) ys
theorem ResA.set {B : Nat} {w : World} {A : Nat → Option Addr} {L C : Nat → Nat} (h : ResA B w A L C) (b j x : Nat) (hx : x < 4294967296) : ResA B (w.setCell ⟨b, j, none⟩ (.int .u32 (x : Int))) A L C := by
  intro i hi
  obtain ⟨ys, h1, h2⟩ := h i hi
  obtain ⟨zs, h3, h4⟩ := h2.setAny b j x hx
  exact ⟨zs, by rw [h1, h3], h4⟩
/-- eight of a kind -/
def pick {α : Type} (x0 x1 x2 x3 x4 x5 x6 x7 : α) : Nat → α
  | 0 => x0 | 1 => x1 | 2 => x2 | 3 => x3 | 4 => x4 | 5 => x5 | 6 => x6 | _ => x7
theorem pick_cells (a0 a1 a2 a3 a4 a5 a6 a7 : Option Addr) (n0 n1 n2 n3 n4 n5 n6 n7 c0 c1 c2 c3 c4 c5 c6 c7 : Nat) (j : Nat) (hj : j < 8) :
    [Value.slice a0 n0 c0, .slice a1 n1 c1, .slice a2 n2 c2, .slice a3 n3 c3, .slice a4 n4 c4, .slice a5 n5 c5, .slice a6 n6 c6, .slice a7 n7 c7][j]? =
      some (.slice (pick a0 a1 a2 a3 a4 a5 a6 a7 j) (pick n0 n1 n2 n3 n4 n5 n6 n7 j) (pick c0 c1 c2 c3 c4 c5 c6 c7 j)) := by
  match j, hj with
  | 0, _ => rfl
  | 1, _ => rfl
  | 2, _ => rfl
  | 3, _ => rfl
  | 4, _ => rfl
  | 5, _ => rfl
  | 6, _ => rfl
  | 7, _ => rfl
theorem pick_all {P : Nat → Prop} (h0 : P 0) (h1 : P 1) (h2 : P 2) (h3 : P 3) (h4 : P 4) (h5 : P 5) (h6 : P 6) (h7 : P 7) : ∀ j, j < 8 → P j := by
  intro j hj
  match j, hj with
  | 0, _ => exact h0
  | 1, _ => exact h1
  | 2, _ => exact h2
  | 3, _ => exact h3
  | 4, _ => exact h4
  | 5, _ => exact h5
  | 6, _ => exact h6
  | 7, _ => exact h7

theorem Same_len (ao bo : Option Addr) (ca cb n m : Nat) (xs : List Nat) (w : World) (ha : Rd w ao ca xs) (hb : Rd w bo cb xs) (hn : n = xs.length) (hm : m = xs.length) :
    Calls Tryd.prog 7 #[.slice ao n ca, .slice bo m cb] w fun e w' => e = .returned (.bool true) ∧ Below w.heap.size w w' := by
  subst hn; subst hm; exact Same_eq ao bo ca cb xs w ha hb
theorem Fr.toRow {B r : Nat} {w w' : World} {O : Obj} {ao : Option Addr} {cap : Nat} {xs : List Nat} (h : Fr B w ao cap xs) (hg : (w.alloc O).grownBy w' (some r)) (hne : ∀ a, ao = some a → a.block ≠ r) : Fr B w' ao cap xs :=
  (h.alloc O).grown hg (fun a e q => hne a e (by cases q; rfl))
theorem Fr.low {B : Nat} {w : World} {ao : Option Addr} {cap : Nat} {xs : List Nat} (h : Fr B w ao cap xs) : ∀ a, ao = some a → a.block ≠ w.heap.size := fun a e => by subst e; have := h.block_lt.2; omega
theorem Fr.high {B r : Nat} {w : World} {ao : Option Addr} {cap : Nat} {xs : List Nat} (h : Fr B w ao cap xs) (hr : r < B) : ∀ a, ao = some a → a.block ≠ r := fun a e => by subst e; have := h.block_lt.1; omega

set_option maxHeartbeats 20000000 in
set_option maxRecDepth 100000 in
theorem NaturalApart_any (ao bo : Option Addr) (ca cb : Nat) (xs ys : List Nat) (w : World) (ha : Rd w ao ca xs) (hb : Rd w bo cb ys) (htab : Tab w) :
    Calls Tryd.prog 4 #[.slice ao xs.length ca, .slice bo ys.length cb] w fun e w' => e = .returned (.bool true) ∧ Below w.heap.size w w' := by
  obtain ⟨u_a, e_a⟩ : ∃ u, u = xs.take 12 := ⟨_, rfl⟩
  obtain ⟨n_a, s_a⟩ := Cut_num ha e_a
  obtain ⟨u_b, e_b⟩ : ∃ u, u = ys.take 12 := ⟨_, rfl⟩
  obtain ⟨n_b, s_b⟩ := Cut_num hb e_b
  have hr : Rd w ao ca u_a := by rw [e_a]; exact ha.take 12
  have hul : u_a.length ≤ 12 := by rw [e_a]; simp; omega
  have E_a := Lib.hid e_a
  have E_b := Lib.hid e_b
  obtain ⟨i0, hi, hz0, hz1, hz2⟩ := info_parts infoU32
  clear e_a e_b
  go_enter Tryd.func4, Tryd.ntmps4
  go_wp2_with fail
  refine (Cut_any _ _ _ u_a _ ha E_a.out).mono ?_; rintro e w' ⟨rfl, rfl⟩
  go_wp2_with fail
  refine (Cut_any _ _ _ u_b _ hb E_b.out).mono ?_; rintro e w' ⟨rfl, rfl⟩
  clear ha hb E_a E_b
  go_wp2_with (first
    | (at_make; refine wpList_make_own _ rfl _ _ 23 rfl w.heap.size 31 i0 (.int .u32 0) 1 Tryd.underlying23 hi hz0 hz1 _ _ _ (u_a.length + 2) rfl rfl (by omega) (by rw [hz2]; omega) (by unfold maxLen; omega) (Nat.le_refl _) ?_; intro w1 hown hgr)
    | (at_builtin; refine wp_append_rd_row _ rfl _ _ 23 rfl Tryd.underlying23 w.heap.size _ hown ((Below.refl _ _).grown hgr (Nat.le_refl _) (fun k hk => by cases hk)).size rfl ao ca u_a _ rfl rfl (hr.below ((Below.refl _ _).grown hgr (Nat.le_refl _) (fun k hk => by cases hk))) (by omega) ?_; intro aq cq w2 hq b2)
    | (at_builtin; refine wpList_append_own_at _ rfl _ _ 23 rfl w.heap.size 31 i0 (.int .u32 0) 1 4 Tryd.underlying23 hi hz0 hz1 hz2 rfl (by omega) _ _ _ rfl (hq.alloc _) ⟨w2.heap.size, 0, none⟩ 2 2 [.int .u32 5, .int .u32 6] rfl rfl (two_new _ _ _ _) (by intro u hu; simp at hu; rcases hu with rfl | rfl <;> rfl) (by unfold maxLen; omega) (by omega) (by have := ((Below.refl w.heap.size w).grown hgr (Nat.le_refl _) (fun k hk => by cases hk)).size; have := b2.size; simp; omega) ?_; intro v3 w3 hown3 hgr3 hnil3 hloc3; obtain ⟨b, rc, hw2, rfl, hroom, hrc⟩ := room_of hr.lims hown3))
  have b3 : Below w.heap.size w w3 := by
    have c1 : Below w.heap.size w w1 := (Below.refl _ _).grown hgr (Nat.le_refl _) (fun k hk => by cases hk)
    have c2 := c1.trans b2
    have c3 : Below w.heap.size w (w2.alloc (.cells #[.int .u32 5, .int .u32 6] 31)) := c2.alloc c2.size _
    exact c3.grown hgr3 (by have := c2.size; simp; omega) (fun k hk => (hq.lt k hk).1)
  replace n_a := n_a.below b3
  replace n_b := n_b.below b3
  have htab3 := htab.below b3
  have n_g : Num w3 (some ⟨b, 0, none⟩) u_a.length rc (val u_a) := by
    have h1 := (hroom.take u_a.length).rd
    rw [List.take_left'  rfl] at h1
    exact Num.of_rd h1 (by omega)
  have n_0 : Num w3 none 0 0 0 := ⟨[], rfl, (Fr.nil 0 w3).rd, rfl, by simp⟩
  have B : Below w3.heap.size w3 w3 := Below.refl _ _
  have hr3 := hr.below b3
  clear hr hown hgr hq b2 hown3 hgr3 hnil3 hloc3 htab hi hz0 hz1 hz2 hw2
  refine (Trim_num n_g).mono ?_; rintro e w4 ⟨a4, c4, rfl, f4, b4⟩
  replace B := B.trans b4
  go_wp2_with fail
  refine (Add_num (n_g.below B) (n_0.below B)).mono ?_; rintro e w5 ⟨a5, c5, rfl, f5, b5⟩
  replace B := B.trans (b5.mono B.size)
  have n_1 := one_new w5
  have B1 := B.trans ((below_new w5 (.cells #[.int .u32 1] 31)).mono B.size)
  go_wp2_with fail
  refine (Mul_num (n_g.below B1) n_1).mono ?_; rintro e w6 ⟨a6, c6, rfl, f6, b6⟩
  replace B := B1.trans (b6.mono B1.size)
  clear n_1 B1
  go_wp2_with fail
  refine (GCD_num (n_g.below B) (n_0.below B)).mono ?_; rintro e w7 ⟨a7, c7, rfl, f7, b7⟩
  replace B := B.trans (b7.mono B.size)
  go_wp2_with fail
  refine (Add_num (n_g.below B) (n_b.below B)).mono ?_; rintro e w8 ⟨a8, c8, rfl, f8, b8⟩
  replace B := B.trans (b8.mono B.size)
  have b9 := below_new w8 (.cells #[.slice a4 (dig (val u_a)).length c4, .slice a5 (dig (val u_a)).length c5, .slice a6 (dig (val u_a)).length c6, .slice a7 (dig (val u_a)).length c7, .slice a8 (dig (val u_a + val u_b)).length c8] 23)
  obtain ⟨w9, hw9⟩ : ∃ w9, w9 = w8.alloc (.cells #[.slice a4 (dig (val u_a)).length c4, .slice a5 (dig (val u_a)).length c5, .slice a6 (dig (val u_a)).length c6, .slice a7 (dig (val u_a)).length c7, .slice a8 (dig (val u_a + val u_b)).length c8] 23) := ⟨_, rfl⟩
  have hr9 : w9.ownsRow w3.heap.size 23 1 (.slice (some ⟨w8.heap.size, 0, none⟩) 5 5) 5 [.slice a4 (dig (val u_a)).length c4, .slice a5 (dig (val u_a)).length c5, .slice a6 (dig (val u_a)).length c6, .slice a7 (dig (val u_a)).length c7, .slice a8 (dig (val u_a + val u_b)).length c8] := by
    rw [hw9]; exact World.ownsRow_lit (size := 1) w8 _ 5 B.size (by unfold maxLen; omega) rfl
  rw [← hw9] at b9
  have hs9 : w9.heap.size = w8.heap.size + 1 := by rw [hw9]; simp
  have W9 := Lib.hid hw9.symm
  have HS9 := Lib.hid hs9
  clear hw9 hs9
  replace B := B.trans (b9.mono B.size)
  have n_1 := one_new w9
  rw [HS9.out] at n_1
  have b10 := below_new w9 (.cells #[.int .u32 1] 31)
  replace B := B.trans (b10.mono B.size)
  go_wp2_with fail
  rw [W9.out]
  refine (Divide_numD (n_g.below B) n_1 (by omega) (Nat.div_one _) (Nat.mod_one _)).mono ?_; rintro e w11 ⟨a11, c11, a12, c12, rfl, f11, f12, b11⟩
  replace B := B.trans (b11.mono B.size)
  go_wp2_with fail
  refine (Sub_numD (n_g.below B) (n_0.below B) (Nat.zero_le _) rfl).mono ?_; rintro e w13 ⟨a13, c13, rfl, f13, b13⟩
  replace B := B.trans (b13.mono B.size)
  have hr13 := (hr9.kept (grownBy_below (b10.trans (b11.mono b10.size)) (Nat.le_refl _) none) (.inr (by simp [Value.ownBlock]))).kept (grownBy_below b13 (Nat.le_refl _) none) (.inr (by simp [Value.ownBlock]))
  obtain ⟨j0, ji, jz0, jz1, jz2⟩ := info_parts infoNat
  clear hr9 n_1 W9 HS9
  go_wp2_with (at_builtin; refine wpList_append_own_at _ rfl _ _ 32 rfl w3.heap.size 23 j0 (.slice none 0 0) 1 24 Tryd.underlying32 ji jz0 jz1 jz2 rfl (by omega) _ _ _ rfl (hr13.alloc _) ⟨w13.heap.size, 0, none⟩ 3 3 [.slice a11 (dig (val u_a)).length c11, .slice a12 (dig 0).length c12, .slice a13 (dig (val u_a)).length c13] rfl rfl (three_new _ _ _ _ _) (by intro u hu; simp at hu; rcases hu with rfl | rfl | rfl <;> rfl) (by unfold maxLen; omega) (by omega) (by have := B.size; simp; omega) ?_; intro v14 w14 hr14 hgr14 hnil14 hloc14; obtain ⟨g, cg, rfl, hgb, hgl⟩ := hr14.form (by omega))
  have B14 : Below w3.heap.size w3 w14 := by
    have c1 : Below w3.heap.size w3 (w13.alloc (.cells #[.slice a11 (dig (val u_a)).length c11, .slice a12 (dig 0).length c12, .slice a13 (dig (val u_a)).length c13] 23)) := B.alloc B.size _
    exact c1.grown hgr14 (by have := B.size; simp; omega) (fun k hk => (hr13.lt k hk).1)
  have hg14 : (w13.alloc (.cells #[.slice a11 (dig (val u_a)).length c11, .slice a12 (dig 0).length c12, .slice a13 (dig (val u_a)).length c13] 23)).grownBy w14 (some w8.heap.size) := hgr14
  have hz9 := b9.size
  have hz10 := b10.size
  have D8 : Below w8.heap.size w8 w13 := ((b9.trans (b10.mono b9.size)).trans (b11.mono (by omega))).trans (b13.mono (by have := b11.size; omega))
  have g4 := (((((f4.below b5).alloc (.cells #[.int .u32 1] 31)).below b6).below b7).below b8)
  have g5 := ((((f5.alloc (.cells #[.int .u32 1] 31)).below b6).below b7).below b8)
  have g6 := ((f6.below b7).below b8)
  have g7 := f7.below b8
  have hz4 := b4.size
  have hz5 := b5.size
  have hz6 := b6.size
  have hz7 := b7.size
  rw [World.size_alloc] at hz6
  have hw9 : (w9.alloc (.cells #[.int .u32 1] 31)).heap.size = w9.heap.size + 1 := World.size_alloc _ _
  have r4 := ((g4.below D8).toRow hg14 g4.low)
  have r5 := ((g5.below D8).toRow hg14 g5.low).mono hz4
  have r6 := ((g6.below D8).toRow hg14 g6.low).mono (B' := w3.heap.size) (by rw [World.size_alloc]; omega)
  have r7 := ((g7.below D8).toRow hg14 g7.low).mono (B' := w3.heap.size) (by omega)
  have r8 := ((f8.below D8).toRow hg14 f8.low).mono (B' := w3.heap.size) (by omega)
  have hz8 : w7.heap.size ≤ w8.heap.size := b8.size
  have r11 := ((f11.below b13).toRow hg14 (f11.high (by rw [hw9]; omega))).mono (B' := w3.heap.size) (by rw [hw9]; omega)
  have r12 := ((f12.below b13).toRow hg14 (f12.high (by rw [hw9]; omega))).mono (B' := w3.heap.size) (by rw [hw9]; omega)
  have hz11 := b11.size
  have r13 := (f13.toRow hg14 (f13.high (by rw [hw9] at hz11; omega))).mono (B' := w3.heap.size) (by rw [hw9] at hz11; omega)
  have hres : ResA w3.heap.size w14 (pick a4 a5 a6 a7 a8 a11 a12 a13) (pick (dig (val u_a)).length (dig (val u_a)).length (dig (val u_a)).length (dig (val u_a)).length (dig (val u_a + val u_b)).length (dig (val u_a)).length (dig 0).length (dig (val u_a)).length) (pick c4 c5 c6 c7 c8 c11 c12 c13) := by
    refine pick_all ?_ ?_ ?_ ?_ ?_ ?_ ?_ ?_
    · exact ⟨_, rfl, r4⟩
    · exact ⟨_, rfl, r5⟩
    · exact ⟨_, by rw [Nat.mul_one]; rfl, r6⟩
    · exact ⟨_, by rw [Nat.gcd_zero_right]; rfl, r7⟩
    · exact ⟨_, rfl, r8⟩
    · exact ⟨_, rfl, r11⟩
    · exact ⟨_, rfl, r12⟩
    · exact ⟨_, rfl, r13⟩
  have hcells : ∀ j, j < 8 → w14.cell? ⟨g, j, none⟩ = some (.slice (pick a4 a5 a6 a7 a8 a11 a12 a13 j) (pick (dig (val u_a)).length (dig (val u_a)).length (dig (val u_a)).length (dig (val u_a)).length (dig (val u_a + val u_b)).length (dig (val u_a)).length (dig 0).length (dig (val u_a)).length j) (pick c4 c5 c6 c7 c8 c11 c12 c13 j)) := fun j hj => by
    rw [hr14.cellAt j (by omega)]
    exact pick_cells _ _ _ _ _ _ _ _ _ _ _ _ _ _ _ _ _ _ _ _ _ _ _ _ j hj
  obtain ⟨A, hA⟩ : ∃ A, A = pick a4 a5 a6 a7 a8 a11 a12 a13 := ⟨_, rfl⟩
  obtain ⟨L, hL⟩ : ∃ L, L = pick (dig (val u_a)).length (dig (val u_a)).length (dig (val u_a)).length (dig (val u_a)).length (dig (val u_a + val u_b)).length (dig (val u_a)).length (dig 0).length (dig (val u_a)).length := ⟨_, rfl⟩
  obtain ⟨C, hC⟩ : ∃ C, C = pick c4 c5 c6 c7 c8 c11 c12 c13 := ⟨_, rfl⟩
  rw [← hA, ← hL, ← hC] at hres hcells
  have hgb14 : ∃ cur, w14.heap[g]? = some (.cells cur 23 (0, 0)) := by
    rcases hr14.2 with ⟨h, _⟩ | ⟨g', c', cur, h, _, hh, _⟩
    · cases h
    · cases h; exact ⟨cur, hh⟩
  obtain ⟨cur, hcur⟩ := hgb14
  have HC := Lib.hid hcells
  have HR := Lib.hid hres
  have HCUR := Lib.hid hcur
  clear hcells hres hcur hA hL hC r4 r5 r6 r7 r8 r11 r12 r13 g4 g5 g6 g7 D8 hg14 hgr14 hr14 hnil14 hr13 f4 f5 f6 f7 f8 f11 f12 f13 b4 b5 b6 b7 b8 b9 b10 b11 b13 hz4 hz5 hz6 hz7 hz8 hz9 hz10 hz11 hw9 B ji jz0 jz1 jz2 hloc14
  go_loopw [64] (fun s64 wr => ∃ i : Nat, i ≤ 8 ∧ s64 = .int .i64 i ∧ Below w3.heap.size w3 wr ∧ Hid (wr.heap[g]? = some (.cells cur 23 (0, 0))) ∧ Hid (ResA w3.heap.size wr A L C)) (fun s64 _ => 8 - (intOf s64).toNat)
  case atStart => exact ⟨0, by omega, rfl, B14, HCUR.out, HR.out⟩
  case round =>
    obtain ⟨i, hi, rfl, hbl, hrow, hres⟩ := hrel
    by_cases hlt : i < 8
    · have hcell : wr.cell? ⟨g, i, none⟩ = some (.slice (A i) (L i) (C i)) := by
        have h1 := HC.out i hlt
        simp only [World.cell?, HCUR.out] at h1
        simp only [World.cell?, hrow.out]
        exact h1
      obtain ⟨ys, hys, hfy⟩ := hres.out i hlt
      obtain ⟨x, hx⟩ : ∃ x, x = A i := ⟨_, rfl⟩
      obtain ⟨l, hl⟩ : ∃ l, l = L i := ⟨_, rfl⟩
      obtain ⟨c, hc⟩ : ∃ c, c = C i := ⟨_, rfl⟩
      rw [← hx, ← hl, ← hc] at hcell
      rw [← hx, ← hc] at hfy
      rw [← hl] at hys
      have hlc : l ≤ c := by rw [hys]; exact hfy.1
      have hcm := hfy.2.1
      have HX := Lib.hid hx
      have HL := Lib.hid hl
      have HCC := Lib.hid hc
      clear hx hl hc hys hfy
      go_wp2_with fail
      go_loopw [70] (fun s70 wi => ∃ k : Nat, k ≤ l ∧ s70 = .int .i64 k ∧ Below w3.heap.size w3 wi ∧ Hid (wi.heap[g]? = some (.cells cur 23 (0, 0))) ∧ Hid (ResA w3.heap.size wi A L C)) (fun s70 _ => l - (intOf s70).toNat)
      case atStart => exact ⟨0, by omega, rfl, hbl, hrow.out, hres.out⟩
      case round =>
        obtain ⟨k, hk, rfl, hbl2, hrow2, hres2⟩ := hrel
        clear hbl hrow hres hcell
        by_cases hlt2 : k < l
        · obtain ⟨ys, hys, hfy⟩ := hres2.out i hlt
          rw [← HX.out, ← HCC.out] at hfy
          rw [← HL.out] at hys
          obtain ⟨bx, rfl, hBx, hown⟩ := hfy.block (by omega)
          have hcell := hown.cell (j := k) (by omega)
          have hfro := hown.frozen k
          have hne : bx ≠ g := by
            rintro rfl
            obtain ⟨cu, hcu, _⟩ := hown
            rw [hrow2.out] at hcu
            cases hcu
          have hrow3 : Hid ((wr.setCell ⟨bx, k, none⟩ (.int .u32 9)).heap[g]? = some (.cells cur 23 (0, 0))) := by
            show _ = _
            rw [Below.heap_setCell _ _ _ _ (fun e => hne (show g = bx from e).symm)]; exact hrow2.out
          have hres3 := Lib.hid (hres2.out.set bx k 9 (by omega))
          have hbl3 := hbl2.setCell (p := ⟨bx, k, none⟩) hBx (.int .u32 9)
          clear hys hfy hown
          go_wp2_with fail
          go_roundw
          case rel => exact ⟨k + 1, by omega, by go_num, hbl3, hrow3.out, hres3.out⟩
          case measure => simp [intOf]; omega
        · obtain rfl : k = l := by omega
          go_wp2_with fail
          go_roundw
          case rel => exact ⟨i + 1, by omega, by go_num, hbl2, hrow2.out, hres2.out⟩
          case measure => simp [intOf]; omega
    · obtain rfl : i = 8 := by omega
      clear HC HR HCUR hres hrow
      obtain ⟨i1, ki, kz0, kz1, kz2⟩ := info_parts infoU32
      have hra := (hr3.below hbl).alloc (.cells #[] 31)
      have hown0 : (wr.alloc (.cells #[] 31)).ownsRow wr.heap.size 31 1 (.slice (some ⟨wr.heap.size, 0, none⟩) 0 0) 0 (lits []) := World.ownsRow_lit (size := 1) wr #[] 0 (Nat.le_refl _) (by omega) rfl
      have hbA : Below w3.heap.size w3 (wr.alloc (.cells #[] 31)) := hbl.alloc hbl.size _
      have hzw := hbl.size
      go_wp2_with (first
        | (at_builtin; refine wp_append_rd_row _ rfl _ _ 23 rfl Tryd.underlying23 wr.heap.size _ hown0 (by simp) rfl ao ca u_a _ rfl rfl hra (by omega) ?_; intro aq2 cq2 w15 hq15 b15)
        | (at_builtin; refine wpList_append_own_at _ rfl _ _ 23 rfl wr.heap.size 31 i1 (.int .u32 0) 1 4 Tryd.underlying23 ki kz0 kz1 kz2 rfl (by omega) _ _ _ rfl (hq15.alloc _) ⟨w15.heap.size, 0, none⟩ 2 2 [.int .u32 5, .int .u32 6] rfl rfl (two_new _ _ _ _) (by intro u hu; simp at hu; rcases hu with rfl | rfl <;> rfl) (by unfold maxLen; omega) (by omega) (by have := b15.size; simp at this; simp; omega) ?_; intro v16 w16 hown16 hgr16 hnil16 hloc16; obtain ⟨bq, rq, hw16, rfl, hroom16, hrc16⟩ := room_of hr3.lims hown16))
      have b16 : Below w3.heap.size w3 w16 := by
        have c2 := hbA.trans (b15.mono hzw)
        have c3 : Below w3.heap.size w3 (w15.alloc (.cells #[.int .u32 5, .int .u32 6] 31)) := c2.alloc c2.size _
        exact c3.grown hgr16 (by have := c2.size; simp; omega) (fun k hk => Nat.le_trans hzw (hq15.lt k hk).1)
      have hroomA := (hroom.rd).below b16
      have n_a2 := n_a.below b16
      have n_b2 := n_b.below b16
      have htab4 := htab3.below b16
      clear hown0 hq15 b15 hown16 hgr16 hnil16 hloc16 hra hbA ki kz0 kz1 kz2 hbl
      refine (Same_len _ _ _ _ _ _ (u_a ++ [5, 6]) _ hroomA hroom16.rd (by rw [List.length_append]; rfl) (by rw [List.length_append]; rfl)).mono ?_; rintro e w17 ⟨rfl, b17⟩
      replace n_a2 := n_a2.below b17
      replace n_b2 := n_b2.below b17
      replace htab4 := htab4.below b17
      have BB := (b3.trans (b16.mono b3.size)).trans (b17.mono (Nat.le_trans b3.size b16.size))
      clear hroomA hroom16 b16 b17 hroom B14
      go_wp2_with fail
      refine (Add_num n_a2 n_b2).mono ?_; rintro e w18 ⟨a18, c18, rfl, f18, b18⟩
      replace n_a2 := n_a2.below b18
      replace n_b2 := n_b2.below b18
      replace htab4 := htab4.below b18
      replace BB := BB.trans (b18.mono BB.size)
      go_wp2_with fail
      refine (rAdd_num n_a2 n_b2).mono ?_; rintro e w19 ⟨a19, c19, rfl, f19, b19⟩
      replace f18 := f18.below b19
      replace htab4 := htab4.below b19
      replace BB := BB.trans (b19.mono BB.size)
      go_wp2_with fail
      refine (Same_num f18 f19 rfl).mono ?_; rintro e w20 ⟨rfl, b20⟩
      replace htab4 := htab4.below b20
      replace BB := BB.trans (b20.mono BB.size)
      go_wp2_with fail
      refine (awake_any _ htab4).mono ?_; rintro e w21 ⟨rfl, b21⟩
      go_wp2_with fail
      go_ret
      exact ⟨rfl, BB.trans (b21.mono BB.size)⟩
end Go.Proofs.YtlgcflapgdkghabDoor
