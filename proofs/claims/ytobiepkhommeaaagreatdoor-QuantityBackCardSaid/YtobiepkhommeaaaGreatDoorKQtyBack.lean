import Derived.Test.YtobiepkhommeaaaGreatDoorQty13
import Derived.Test.YtobiepkhommeaaaGreatDoorLast
import Derived.Deep.CutRange
import Derived.Test.YtobiepkhommeaaaGreatDoorFacts8g
import Derived.Test.YtobiepkhommeaaaGreatDoorFrame8b
import Derived.Test.YtobiepkhommeaaaGreatDoorFrame8l
/- QuantityBack: the walk. -/
namespace Go.Proofs.YtobiepkhommeaaaGreatDoor
open Go.RowKit Go.Sort C6

set_option maxHeartbeats 16000000 in
set_option maxRecDepth 100000 in
theorem QuantityBack_any (d c a : Int) (ao : Option Addr) (ts : List Int) (cap : Nat) (w : World) (hb : QB d c a) (hr : RdZ w ao cap ts) (he : Env w) :
    Calls Tryz.prog 5 #[.agg #[.int .i64 d, .int .i64 c, .int .i64 a], .slice ao ts.length cap] w fun e w' => e = .returned (.bool true) ∧ Below w.heap.size w w' := by
  obtain ⟨g0, hg0⟩ : ∃ g, g = w.heap.size := ⟨_, rfl⟩
  obtain ⟨W1, hW1⟩ : ∃ W, W = w.alloc (.cells #[.int .i64 d, .int .i64 c, .int .i64 a] 39) := ⟨_, rfl⟩
  have b1 : Below w.heap.size w W1 := by rw [hW1]; exact below_new _ _
  have s1 : W1.heap.size = w.heap.size + 1 := by rw [hW1]; exact World.size_alloc _ _
  have x1 : W1.heap[g0]? = some (.cells #[.int .i64 d, .int .i64 c, .int .i64 a] 39 (0, 0)) := by rw [hW1, hg0]; exact heap_alloc_new _ _
  obtain ⟨W2, hW2⟩ : ∃ W, W = W1.alloc (.cells #[.slice ao ts.length cap, .int .i64 0] 43) := ⟨_, rfl⟩
  have b2 : Below W1.heap.size W1 W2 := by rw [hW2]; exact below_new _ _
  obtain ⟨B, hB⟩ : ∃ B, B = w.heap.size + 1 := ⟨_, rfl⟩
  have hT : Tap W2 B ao ts.length cap 0 := by rw [hW2, hB, ← s1]; exact Tap.new _ _ _ _
  have hR : RdZ W2 ao cap ts := RdV.below (RdV.below hr b1) b2
  have hTB : 0 < (intz ts).length → ∀ b o, ao = some ⟨b, o, none⟩ → b < B := fun h b o e => by
    have := hr.lt h b o e
    omega
  have TQ := Lib.hid (TQuantity_v B ao cap ts 0 W2 hT hR hTB (by omega))
  have X2 := Lib.hid (carry x1 b2)
  have B2 := Lib.hid (b1.trans (b2.mono b1.size))
  have hBg : B = g0 + 1 := by omega
  have HBG := Lib.hid hBg
  have HG0 := Lib.hid hg0
  obtain ⟨nts, hnts⟩ : ∃ n, n = ts.length := ⟨_, rfl⟩
  unfold Hid at TQ
  rw [← hnts] at TQ hW2 ⊢
  have TQ := Lib.hid TQ
  have EN := Lib.hid he
  clear b1 x1 b2 hT hR hTB hr he s1 hnts hBg
  go_enter Tryz.func5, Tryz.ntmps5
  go_wp2_with fail
  rw [← hW1, ← hW2, ← hB, ← hg0]
  clear hW1 hW2 hB hg0
  refine TQ.out.mono ?_; rintro e W3 ⟨dm, cm, am, rfl, ⟨hd1, hd2⟩, ⟨hc1, hc2⟩, ⟨ha1, ha2⟩, g3, _⟩
  have hl2 := (Array.getElem?_eq_some_iff.1 X2.out).1
  have x3 := (g3.block g0 hl2 (by have := HBG.out; simp; omega)).trans X2.out
  have B3 : Below w.heap.size w W3 := B2.out.trans (gb_below g3 (by have := HBG.out; omega) |>.mono (by have := HBG.out; have := HG0.out; omega))
  have n4 := below_new W3 (.cells #[.int .i64 (dm : Int), .int .i64 (cm : Int), .int .i64 (am : Int)] 39)
  have x4 := heap_alloc_new W3 (.cells #[.int .i64 (dm : Int), .int .i64 (cm : Int), .int .i64 (am : Int)] 39)
  obtain ⟨gm, hgm⟩ : ∃ g, g = W3.heap.size := ⟨_, rfl⟩
  obtain ⟨W4, hW4⟩ : ∃ W, W = W3.alloc (.cells #[.int .i64 (dm : Int), .int .i64 (cm : Int), .int .i64 (am : Int)] 39) := ⟨_, rfl⟩
  have s4 : W4.heap.size = gm + 1 := by rw [hW4, hgm]; exact World.size_alloc _ _
  rw [← hW4] at n4 x4
  have X0 := Lib.hid (carry x3 n4)
  rw [← hgm] at x4
  have XM := Lib.hid x4
  have B4 := Lib.hid (B3.trans (n4.mono B3.size))
  have hgle : gm ≤ W4.heap.size := by omega
  have hg0m : g0 < gm := by rw [hgm]; exact (Array.getElem?_eq_some_iff.1 x3).1
  have hwgm : w.heap.size ≤ gm := by have := B3.size; omega
  have HH := Lib.hid (And.intro hg0m hwgm)
  clear g3 x3 B3 n4 x4 hl2 s4 hg0m hwgm
  -- the two folded numbers
  obtain ⟨f1, hf1⟩ : ∃ u : Nat, u = fold c 1000 := ⟨_, rfl⟩
  obtain ⟨f2, hf2⟩ : ∃ u : Nat, u = fold d 1000 := ⟨_, rfl⟩
  have F1 : Hid (∀ w', Calls Tryz.prog 26 #[.int .i64 c, .int .i64 1000] w' fun e w2 => e = .returned (.int .i64 (f1 : Int)) ∧ w' = w2) := fun w' => by rw [hf1]; exact Fold_det c 1000 (by omega) (by omega) 1000 rfl w'
  have F2 : Hid (∀ w', Calls Tryz.prog 26 #[.int .i64 d, .int .i64 1000] w' fun e w2 => e = .returned (.int .i64 (f2 : Int)) ∧ w' = w2) := fun w' => by rw [hf2]; exact Fold_det d 1000 (by omega) (by omega) 1000 rfl w'
  have hf1b : f1 < 1000 := by rw [hf1]; exact fold_lt c (by omega)
  have hf2b : f2 < 1000 := by rw [hf2]; exact fold_lt d (by omega)
  obtain ⟨k1, hk1⟩ : ∃ k : Nat, k = 1 + f1 := ⟨_, rfl⟩
  obtain ⟨P, hP⟩ : ∃ P : Nat, P = am * k1 := ⟨_, rfl⟩
  have hPb : P ≤ 1500000 * 1000 := by rw [hP]; exact Nat.mul_le_mul ha2 (by omega)
  obtain ⟨S, hS⟩ : ∃ S : Nat, S = P + f2 := ⟨_, rfl⟩
  obtain ⟨H, hH⟩ : ∃ H : Nat, H = S / 100 := ⟨_, rfl⟩
  have hHb : H ≤ S := by rw [hH]; exact Nat.div_le_self _ _
  obtain ⟨A, hA⟩ : ∃ A : Nat, A = 1 + H := ⟨_, rfl⟩
  have i1 : 1 + (f1 : Int) = (k1 : Int) := by omega
  have i2 : (am : Int) * (k1 : Int) = (P : Int) := by rw [hP]; exact (Int.natCast_mul am k1).symm
  have i3 : (P : Int) + (f2 : Int) = (S : Int) := by omega
  have i4 : Int.tmod (S : Int) 1099511627776 = (S : Int) := by rw [Int.tmod_eq_emod_of_nonneg (by omega)]; omega
  have i5 : Int.tdiv (S : Int) 100 = (H : Int) := by rw [Int.tdiv_eq_ediv_of_nonneg (by omega)]; omega
  have i6 : 1 + (H : Int) = (A : Int) := by omega
  have i7 : IntKind.i64.wrap (k1 : Int) = (k1 : Int) := IntWalk.i64_in _ (by omega)
  have i8 : IntKind.i64.wrap (P : Int) = (P : Int) := IntWalk.i64_in _ (by omega)
  have i9 : IntKind.i64.wrap (S : Int) = (S : Int) := IntWalk.i64_in _ (by omega)
  have i10 : IntKind.i64.wrap (H : Int) = (H : Int) := IntWalk.i64_in _ (by omega)
  have i11 : IntKind.i64.wrap (A : Int) = (A : Int) := IntWalk.i64_in _ (by omega)
  have HQM : Hid (QB (dm : Int) (cm : Int) (A : Int)) := ⟨by omega, by omega, by omega, by omega, by omega, by omega⟩
  clear hf1 hf2 hf1b hf2b hk1 hP hPb hS hH hHb hA hd1 hd2 hc1 hc2 ha1 ha2
  go_upto_region 2 with fail
  rw [← hW4, ← hgm]
  clear hW4 hgm
  refine wp_region_any (by kernel_rfl) ?_
  refine region_ssa [16, 17, 18, 19, 20, 21, 22, 23, 24, 25, 26, 27, 28, 29, 30] (Below gm W4) (Below gm) (ValR [some (.inl (.pointer (some ⟨gm, 2, none⟩))), some (.inl (.int .i64 (am : Int))), some (.inl (.pointer (some ⟨g0, 1, none⟩))), some (.inl (.int .i64 c)), some (.inl (.int .i64 (f1 : Int))), some (.inl (.int .i64 (k1 : Int))), some (.inl (.int .i64 (P : Int))), some (.inl (.pointer (some ⟨g0, 0, none⟩))), some (.inl (.int .i64 d)), some (.inl (.int .i64 (f2 : Int))), some (.inl (.int .i64 (S : Int))), some (.inl (.int .i64 (S : Int))), some (.inl (.int .i64 (H : Int))), some (.inl (.int .i64 (A : Int))), some (.inl (.pointer (some ⟨gm, 2, none⟩))), none]) (LastX W4 gm 15 (.cells #[.int .i64 (dm : Int), .int .i64 (cm : Int), .int .i64 (A : Int)] 39 (0, 0))) (fun f => rfl) (by kernel_rfl) (by kernel_rfl) ?_ ?_ ?_ ?_ (AllFrom.below (n := 16) ?_) ?_
  · exact (Below.refl _ _).drew
  · intro f; exact ⟨fun _ => (Below.refl _ _).drew, fun h => by cases h⟩
  · intro i v w1 w2 _ h _; exact h
  · intro w1 w2 hB hE; exact hB.trans hE
  · refine AllFrom.step (m := 15) (j := 1) rfl ?_ ?_
    · intro D f w1 hD hG hR hp hcl hX
      have hB := hX.1 (no_tr (no_of (D := D) (hcl 15) (by kernel_rfl) hD))
      refine wpOp_step rfl (fun K hK => ?_)
      simp only [putAll, Act.put, List.setIfInBounds_toArray, List.set_cons_succ, List.set_cons_zero]
      go_simp
      exact hK _ _ ⟨(.pointer (some ⟨gm, 2, none⟩)), (by show _ = Act.put _ (some 16) _; simp only [putAll, Act.put, List.setIfInBounds_toArray, List.set_cons_succ, List.set_cons_zero, *]), rfl, Below.refl _ _, fun _ => hB, fun h => absurd h (no_of (D := D) (hcl 15) (by kernel_rfl) hD)⟩
    refine AllFrom.step (m := 14) (j := 2) rfl ?_ ?_
    · intro D f w1 hD hG hR hp hcl hX
      have hB := hX.1 (no_tr (no_of (D := D) (hcl 15) (by kernel_rfl) hD))
      have e0 : f 16 = (.pointer (some ⟨gm, 2, none⟩)) := (hp_at hp 0 (by kernel_rfl)).2
      obtain ⟨k0, k1', k2, p0, p1, p2⟩ := at_blockQ (carry XM.out hB)
      obtain ⟨j0, j1, j2, _⟩ := at_blockQ (carry X0.out hB)
      refine wpOp_step rfl (fun K hK => ?_)
      simp only [putAll, Act.put, List.setIfInBounds_toArray, List.set_cons_succ, List.set_cons_zero]
      go_simp
      exact hK _ _ ⟨(.int .i64 (am : Int)), (by show _ = Act.put _ (some 17) _; simp only [putAll, Act.put, List.setIfInBounds_toArray, List.set_cons_succ, List.set_cons_zero, *]), rfl, Below.refl _ _, fun _ => hB, fun h => absurd h (no_of (D := D) (hcl 15) (by kernel_rfl) hD)⟩
    refine AllFrom.step (m := 13) (j := 3) rfl ?_ ?_
    · intro D f w1 hD hG hR hp hcl hX
      have hB := hX.1 (no_tr (no_of (D := D) (hcl 15) (by kernel_rfl) hD))
      refine wpOp_step rfl (fun K hK => ?_)
      simp only [putAll, Act.put, List.setIfInBounds_toArray, List.set_cons_succ, List.set_cons_zero]
      go_simp
      exact hK _ _ ⟨(.pointer (some ⟨g0, 1, none⟩)), (by show _ = Act.put _ (some 18) _; simp only [putAll, Act.put, List.setIfInBounds_toArray, List.set_cons_succ, List.set_cons_zero, *]), rfl, Below.refl _ _, fun _ => hB, fun h => absurd h (no_of (D := D) (hcl 15) (by kernel_rfl) hD)⟩
    refine AllFrom.step (m := 12) (j := 4) rfl ?_ ?_
    · intro D f w1 hD hG hR hp hcl hX
      have hB := hX.1 (no_tr (no_of (D := D) (hcl 15) (by kernel_rfl) hD))
      have e2 : f 18 = (.pointer (some ⟨g0, 1, none⟩)) := (hp_at hp 2 (by kernel_rfl)).2
      obtain ⟨k0, k1', k2, p0, p1, p2⟩ := at_blockQ (carry XM.out hB)
      obtain ⟨j0, j1, j2, _⟩ := at_blockQ (carry X0.out hB)
      refine wpOp_step rfl (fun K hK => ?_)
      simp only [putAll, Act.put, List.setIfInBounds_toArray, List.set_cons_succ, List.set_cons_zero]
      go_simp
      exact hK _ _ ⟨(.int .i64 c), (by show _ = Act.put _ (some 19) _; simp only [putAll, Act.put, List.setIfInBounds_toArray, List.set_cons_succ, List.set_cons_zero, *]), rfl, Below.refl _ _, fun _ => hB, fun h => absurd h (no_of (D := D) (hcl 15) (by kernel_rfl) hD)⟩
    refine AllFrom.step (m := 11) (j := 5) rfl ?_ ?_
    · intro D f w1 hD hG hR hp hcl hX
      have hB := hX.1 (no_tr (no_of (D := D) (hcl 15) (by kernel_rfl) hD))
      have e3 : f 19 = (.int .i64 c) := (hp_at hp 3 (by kernel_rfl)).2
      refine wpOp_step rfl (fun K hK => ?_)
      simp only [putAll, Act.put, List.setIfInBounds_toArray, List.set_cons_succ, List.set_cons_zero]
      go_simp
      refine (F1.out _).mono ?_
      rintro e w2 ⟨rfl, rfl⟩
      have hb := Below.refl w1.heap.size w1
      go_simp
      exact hK _ _ ⟨(.int .i64 (f1 : Int)), (by show _ = Act.put _ (some 20) _; simp only [putAll, Act.put, List.setIfInBounds_toArray, List.set_cons_succ, List.set_cons_zero, *]), rfl, hb.mono (Nat.le_trans hgle hB.size), fun _ => hB.trans (hb.mono hB.size), fun h => absurd h (no_of (D := D) (hcl 15) (by kernel_rfl) hD)⟩
    refine AllFrom.step (m := 10) (j := 6) rfl ?_ ?_
    · intro D f w1 hD hG hR hp hcl hX
      have hB := hX.1 (no_tr (no_of (D := D) (hcl 15) (by kernel_rfl) hD))
      have e4 : f 20 = (.int .i64 (f1 : Int)) := (hp_at hp 4 (by kernel_rfl)).2
      refine wpOp_step rfl (fun K hK => ?_)
      simp only [putAll, Act.put, List.setIfInBounds_toArray, List.set_cons_succ, List.set_cons_zero]
      go_simp
      exact hK _ _ ⟨(.int .i64 (k1 : Int)), (by show _ = Act.put _ (some 21) _; simp only [putAll, Act.put, List.setIfInBounds_toArray, List.set_cons_succ, List.set_cons_zero, *]), rfl, Below.refl _ _, fun _ => hB, fun h => absurd h (no_of (D := D) (hcl 15) (by kernel_rfl) hD)⟩
    refine AllFrom.step (m := 9) (j := 7) rfl ?_ ?_
    · intro D f w1 hD hG hR hp hcl hX
      have hB := hX.1 (no_tr (no_of (D := D) (hcl 15) (by kernel_rfl) hD))
      have e1 : f 17 = (.int .i64 (am : Int)) := (hp_at hp 1 (by kernel_rfl)).2
      have e5 : f 21 = (.int .i64 (k1 : Int)) := (hp_at hp 5 (by kernel_rfl)).2
      refine wpOp_step rfl (fun K hK => ?_)
      simp only [putAll, Act.put, List.setIfInBounds_toArray, List.set_cons_succ, List.set_cons_zero]
      go_simp
      exact hK _ _ ⟨(.int .i64 (P : Int)), (by show _ = Act.put _ (some 22) _; simp only [putAll, Act.put, List.setIfInBounds_toArray, List.set_cons_succ, List.set_cons_zero, *]), rfl, Below.refl _ _, fun _ => hB, fun h => absurd h (no_of (D := D) (hcl 15) (by kernel_rfl) hD)⟩
    refine AllFrom.step (m := 8) (j := 8) rfl ?_ ?_
    · intro D f w1 hD hG hR hp hcl hX
      have hB := hX.1 (no_tr (no_of (D := D) (hcl 15) (by kernel_rfl) hD))
      refine wpOp_step rfl (fun K hK => ?_)
      simp only [putAll, Act.put, List.setIfInBounds_toArray, List.set_cons_succ, List.set_cons_zero]
      go_simp
      exact hK _ _ ⟨(.pointer (some ⟨g0, 0, none⟩)), (by show _ = Act.put _ (some 23) _; simp only [putAll, Act.put, List.setIfInBounds_toArray, List.set_cons_succ, List.set_cons_zero, *]), rfl, Below.refl _ _, fun _ => hB, fun h => absurd h (no_of (D := D) (hcl 15) (by kernel_rfl) hD)⟩
    refine AllFrom.step (m := 7) (j := 9) rfl ?_ ?_
    · intro D f w1 hD hG hR hp hcl hX
      have hB := hX.1 (no_tr (no_of (D := D) (hcl 15) (by kernel_rfl) hD))
      have e7 : f 23 = (.pointer (some ⟨g0, 0, none⟩)) := (hp_at hp 7 (by kernel_rfl)).2
      obtain ⟨k0, k1', k2, p0, p1, p2⟩ := at_blockQ (carry XM.out hB)
      obtain ⟨j0, j1, j2, _⟩ := at_blockQ (carry X0.out hB)
      refine wpOp_step rfl (fun K hK => ?_)
      simp only [putAll, Act.put, List.setIfInBounds_toArray, List.set_cons_succ, List.set_cons_zero]
      go_simp
      exact hK _ _ ⟨(.int .i64 d), (by show _ = Act.put _ (some 24) _; simp only [putAll, Act.put, List.setIfInBounds_toArray, List.set_cons_succ, List.set_cons_zero, *]), rfl, Below.refl _ _, fun _ => hB, fun h => absurd h (no_of (D := D) (hcl 15) (by kernel_rfl) hD)⟩
    refine AllFrom.step (m := 6) (j := 10) rfl ?_ ?_
    · intro D f w1 hD hG hR hp hcl hX
      have hB := hX.1 (no_tr (no_of (D := D) (hcl 15) (by kernel_rfl) hD))
      have e8 : f 24 = (.int .i64 d) := (hp_at hp 8 (by kernel_rfl)).2
      refine wpOp_step rfl (fun K hK => ?_)
      simp only [putAll, Act.put, List.setIfInBounds_toArray, List.set_cons_succ, List.set_cons_zero]
      go_simp
      refine (F2.out _).mono ?_
      rintro e w2 ⟨rfl, rfl⟩
      have hb := Below.refl w1.heap.size w1
      go_simp
      exact hK _ _ ⟨(.int .i64 (f2 : Int)), (by show _ = Act.put _ (some 25) _; simp only [putAll, Act.put, List.setIfInBounds_toArray, List.set_cons_succ, List.set_cons_zero, *]), rfl, hb.mono (Nat.le_trans hgle hB.size), fun _ => hB.trans (hb.mono hB.size), fun h => absurd h (no_of (D := D) (hcl 15) (by kernel_rfl) hD)⟩
    refine AllFrom.step (m := 5) (j := 11) rfl ?_ ?_
    · intro D f w1 hD hG hR hp hcl hX
      have hB := hX.1 (no_tr (no_of (D := D) (hcl 15) (by kernel_rfl) hD))
      have e6 : f 22 = (.int .i64 (P : Int)) := (hp_at hp 6 (by kernel_rfl)).2
      have e9 : f 25 = (.int .i64 (f2 : Int)) := (hp_at hp 9 (by kernel_rfl)).2
      refine wpOp_step rfl (fun K hK => ?_)
      simp only [putAll, Act.put, List.setIfInBounds_toArray, List.set_cons_succ, List.set_cons_zero]
      go_simp
      exact hK _ _ ⟨(.int .i64 (S : Int)), (by show _ = Act.put _ (some 26) _; simp only [putAll, Act.put, List.setIfInBounds_toArray, List.set_cons_succ, List.set_cons_zero, *]), rfl, Below.refl _ _, fun _ => hB, fun h => absurd h (no_of (D := D) (hcl 15) (by kernel_rfl) hD)⟩
    refine AllFrom.step (m := 4) (j := 12) rfl ?_ ?_
    · intro D f w1 hD hG hR hp hcl hX
      have hB := hX.1 (no_tr (no_of (D := D) (hcl 15) (by kernel_rfl) hD))
      have e10 : f 26 = (.int .i64 (S : Int)) := (hp_at hp 10 (by kernel_rfl)).2
      refine wpOp_step rfl (fun K hK => ?_)
      simp only [putAll, Act.put, List.setIfInBounds_toArray, List.set_cons_succ, List.set_cons_zero]
      go_simp
      exact hK _ _ ⟨(.int .i64 (S : Int)), (by show _ = Act.put _ (some 27) _; simp only [putAll, Act.put, List.setIfInBounds_toArray, List.set_cons_succ, List.set_cons_zero, *]), rfl, Below.refl _ _, fun _ => hB, fun h => absurd h (no_of (D := D) (hcl 15) (by kernel_rfl) hD)⟩
    refine AllFrom.step (m := 3) (j := 13) rfl ?_ ?_
    · intro D f w1 hD hG hR hp hcl hX
      have hB := hX.1 (no_tr (no_of (D := D) (hcl 15) (by kernel_rfl) hD))
      have e11 : f 27 = (.int .i64 (S : Int)) := (hp_at hp 11 (by kernel_rfl)).2
      refine wpOp_step rfl (fun K hK => ?_)
      simp only [putAll, Act.put, List.setIfInBounds_toArray, List.set_cons_succ, List.set_cons_zero]
      go_simp
      exact hK _ _ ⟨(.int .i64 (H : Int)), (by show _ = Act.put _ (some 28) _; simp only [putAll, Act.put, List.setIfInBounds_toArray, List.set_cons_succ, List.set_cons_zero, *]), rfl, Below.refl _ _, fun _ => hB, fun h => absurd h (no_of (D := D) (hcl 15) (by kernel_rfl) hD)⟩
    refine AllFrom.step (m := 2) (j := 14) rfl ?_ ?_
    · intro D f w1 hD hG hR hp hcl hX
      have hB := hX.1 (no_tr (no_of (D := D) (hcl 15) (by kernel_rfl) hD))
      have e12 : f 28 = (.int .i64 (H : Int)) := (hp_at hp 12 (by kernel_rfl)).2
      refine wpOp_step rfl (fun K hK => ?_)
      simp only [putAll, Act.put, List.setIfInBounds_toArray, List.set_cons_succ, List.set_cons_zero]
      go_simp
      exact hK _ _ ⟨(.int .i64 (A : Int)), (by show _ = Act.put _ (some 29) _; simp only [putAll, Act.put, List.setIfInBounds_toArray, List.set_cons_succ, List.set_cons_zero, *]), rfl, Below.refl _ _, fun _ => hB, fun h => absurd h (no_of (D := D) (hcl 15) (by kernel_rfl) hD)⟩
    refine AllFrom.step (m := 1) (j := 15) rfl ?_ ?_
    · intro D f w1 hD hG hR hp hcl hX
      have hB := hX.1 (no_tr (no_of (D := D) (hcl 15) (by kernel_rfl) hD))
      refine wpOp_step rfl (fun K hK => ?_)
      simp only [putAll, Act.put, List.setIfInBounds_toArray, List.set_cons_succ, List.set_cons_zero]
      go_simp
      exact hK _ _ ⟨(.pointer (some ⟨gm, 2, none⟩)), (by show _ = Act.put _ (some 30) _; simp only [putAll, Act.put, List.setIfInBounds_toArray, List.set_cons_succ, List.set_cons_zero, *]), rfl, Below.refl _ _, fun _ => hB, fun h => absurd h (no_of (D := D) (hcl 15) (by kernel_rfl) hD)⟩
    refine AllFrom.step (m := 0) (j := 16) rfl ?_ ?_
    · intro D f w1 hD hG hR hp hcl hX
      have hB := hX.1 hD
      have e13 : f 29 = (.int .i64 (A : Int)) := (hp_at hp 13 (by kernel_rfl)).2
      have e14 : f 30 = (.pointer (some ⟨gm, 2, none⟩)) := (hp_at hp 14 (by kernel_rfl)).2
      obtain ⟨k0, k1', k2, p0, p1, p2⟩ := at_blockQ (carry XM.out hB)
      obtain ⟨j0, j1, j2, _⟩ := at_blockQ (carry X0.out hB)
      refine wpOp_step rfl (fun K hK => ?_)
      simp only [putAll, Act.put, List.setIfInBounds_toArray, List.set_cons_succ, List.set_cons_zero]
      go_simp
      exact hK _ _ ⟨undef, (by show _ = Act.put _ (none) _; simp only [putAll, Act.put, List.setIfInBounds_toArray, List.set_cons_succ, List.set_cons_zero, *]), trivial, Below.setCell (p := ⟨gm, 2, none⟩) (Below.refl gm w1) (Nat.le_refl gm) _, fun h => absurd h (by simp [upd]), fun _ => by simp [World.setCell, Array.getElem?_modify, carry XM.out hB]⟩
    exact AllFrom.nil
  · intro D f w1 hall hG hR hX
    simp only [putAll, Act.put, List.setIfInBounds_toArray, List.set_cons_succ, List.set_cons_zero]
    have xm := hX.2 (hall 15 (by decide))
    have x0 := (hG.block g0 HH.out.1).trans X0.out
    have B5 := Lib.hid (B4.out.trans (hG.mono HH.out.2))
    generalize f 16 = f16_
    generalize f 17 = f17_
    generalize f 18 = f18_
    generalize f 19 = f19_
    generalize f 20 = f20_
    generalize f 21 = f21_
    generalize f 22 = f22_
    generalize f 23 = f23_
    generalize f 24 = f24_
    generalize f 25 = f25_
    generalize f 26 = f26_
    generalize f 27 = f27_
    generalize f 28 = f28_
    generalize f 29 = f29_
    generalize f 30 = f30_
    obtain ⟨k0, k1', k2, _⟩ := at_blockQ xm
    obtain ⟨j0, j1, j2, _⟩ := at_blockQ x0
    have n6 := below_new w1 (.cells #[.int .i64 d, .int .i64 c, .int .i64 a, .int .i64 (dm : Int), .int .i64 (cm : Int), .int .i64 (A : Int)] 39)
    have y6 := heap_alloc_new w1 (.cells #[.int .i64 d, .int .i64 c, .int .i64 a, .int .i64 (dm : Int), .int .i64 (cm : Int), .int .i64 (A : Int)] 39)
    obtain ⟨W6, hW6⟩ : ∃ W, W = w1.alloc (.cells #[.int .i64 d, .int .i64 c, .int .i64 a, .int .i64 (dm : Int), .int .i64 (cm : Int), .int .i64 (A : Int)] 39) := ⟨_, rfl⟩
    obtain ⟨gr, hgr⟩ : ∃ g, g = w1.heap.size := ⟨_, rfl⟩
    rw [← hW6] at n6 y6
    rw [← hgr] at y6
    have B6 := Lib.hid (B5.out.trans (n6.mono B5.out.size))
    have Y6 := Lib.hid y6
    clear hall hR hX xm x0 n6 y6 hG i1 i2 i3 i4 i5 i6 i7 i8 i9 i10 i11 f
    go_wp2_with fail
    rw [← hW6, ← hgr]
    clear hW6 hgr k0 k1' k2 j0 j1 j2
    go_loopw [35] (fun s35 wr => ∃ i : Nat, i ≤ 2 ∧ s35 = .int .i64 (i : Int) ∧ Hid (Below W6.heap.size W6 wr)) (fun s35 _ => 2 - (intOf s35).toNat)
    case atStart => exact ⟨0, by omega, rfl, Below.refl _ _⟩
    case round =>
      obtain ⟨i, hi, rfl, hwr⟩ := hrel
      have BW := Lib.hid (B6.out.trans (hwr.out.mono B6.out.size))
      by_cases hlt : i < 2
      · have hlt2 : (i : Int) < 2 := by omega
        obtain ⟨x, y, z, c0, c1, c2, hq⟩ := rowQ2 Y6.out hb HQM.out hlt
        replace c0 := cellQ c0 hwr.out
        replace c1 := cellQ c1 hwr.out
        replace c2 := cellQ c2 hwr.out
        obtain ⟨E, hE⟩ : ∃ E, E = qwhy x y z := ⟨_, rfl⟩
        obtain ⟨F, hF⟩ : ∃ F, F = txtB (qfmt x y z) := ⟨_, rfl⟩
        obtain ⟨p1, hp1⟩ : ∃ p, p = rD (qfmt x y z) := ⟨_, rfl⟩
        obtain ⟨p2, hp2⟩ : ∃ p, p = rC (qfmt x y z) := ⟨_, rfl⟩
        obtain ⟨p3, hp3⟩ : ∃ p, p = rA (qfmt x y z) := ⟨_, rfl⟩
        obtain ⟨pe, hpe⟩ : ∃ p, p = rE (qfmt x y z) := ⟨_, rfl⟩
        have FM : Hid (∀ w', Below wr.heap.size wr w' → Calls Tryz.prog 23 #[.agg #[.int .i64 x, .int .i64 y, .int .i64 z]] w' fun e w2 => e = .returned (.tuple #[.string F, .int .i64 E]) ∧ Below w'.heap.size w' w2) := fun w' hb' => by
          rw [hF, hE]; exact QFormat_v x y z hq w' ((EN.out.below (BW.out.trans (hb'.mono BW.out.size))).tab)
        have PA : Hid (∀ w', Below wr.heap.size wr w' → Calls Tryz.prog 27 #[.string F] w' fun e w2 => e = .returned (.tuple #[.agg #[.int .i64 p1, .int .i64 p2, .int .i64 p3], .int .i64 pe]) ∧ Below w'.heap.size w' w2) := fun w' hb' => by
          have h := QParse_v F w' (by rw [hF, txtB_size]; have := qfmt_len x y z; omega) (EN.out.below (BW.out.trans (hb'.mono BW.out.size)))
          rw [hF, txtB_list, ← hp1, ← hp2, ← hp3, ← hpe, ← hF] at h
          exact h
        have VA : Hid (∀ w', Calls Tryz.prog 28 #[.agg #[.int .i64 x, .int .i64 y, .int .i64 z]] w' fun e w2 => e = .returned (.int .i64 E) ∧ Below w'.heap.size w' w2) := fun w' => by rw [hE]; exact rValidate_q x y z hq w'
        have OK : E = 0 → pe = 0 ∧ p1 = x ∧ p2 = y ∧ p3 = z := fun k => by
          rw [hE] at k
          have := fmt_reads k
          rw [hpe, hp1, hp2, hp3, qfmt_ok k]
          exact this
        have n7 := below_new wr (.cells #[.int .i64 x, .int .i64 y, .int .i64 z] 39)
        have y7 := heap_alloc_new wr (.cells #[.int .i64 x, .int .i64 y, .int .i64 z] 39)
        obtain ⟨W7, hW7⟩ : ∃ W, W = wr.alloc (.cells #[.int .i64 x, .int .i64 y, .int .i64 z] 39) := ⟨_, rfl⟩
        obtain ⟨gx, hgx⟩ : ∃ g, g = wr.heap.size := ⟨_, rfl⟩
        rw [← hW7] at n7 y7
        rw [← hgx] at y7
        have Y7 := Lib.hid y7
        have B7 := Lib.hid n7
        have HR7 := Lib.hid hwr.out.size
        clear hE hF hp1 hp2 hp3 hpe hq n7
        obtain ⟨k0, k1', k2, _⟩ := at_blockQ y7
        clear y7
        go_upto_region 6 with fail
        rw [← hW7, ← hgx]
        clear hW7 hgx c0 c1 c2
        go_wp2_with fail
        refine (FM.out _ B7.out).mono ?_; rintro e w8 ⟨rfl, b8⟩
        have B8 := Lib.hid (B7.out.trans (b8.mono B7.out.size))
        have Y8 := Lib.hid (carry Y7.out b8)
        clear b8 k0 k1' k2
        go_wp2_with fail
        refine (PA.out _ B8.out).mono ?_; rintro e w9 ⟨rfl, b9⟩
        have n10 := below_new w9 (.cells #[.int .i64 p1, .int .i64 p2, .int .i64 p3] 39)
        have y10 := heap_alloc_new w9 (.cells #[.int .i64 p1, .int .i64 p2, .int .i64 p3] 39)
        have x9 := carry (carry Y8.out b9) n10
        have B10 := (B8.out.trans (b9.mono B8.out.size)).trans (n10.mono (Nat.le_trans B8.out.size b9.size))
        obtain ⟨W10, hW10⟩ : ∃ W, W = w9.alloc (.cells #[.int .i64 p1, .int .i64 p2, .int .i64 p3] 39) := ⟨_, rfl⟩
        obtain ⟨gy, hgy⟩ : ∃ g, g = w9.heap.size := ⟨_, rfl⟩
        rw [← hW10] at y10 x9 B10
        rw [← hgy] at y10
        have Y10 := Lib.hid y10
        have X9 := Lib.hid x9
        have HB10 := Lib.hid B10
        obtain ⟨k0, k1', k2, _⟩ := at_blockQ x9
        clear b9 n10 y10 x9 B10
        go_upto_region 8 with fail
        rw [← hW10, ← hgy]
        clear hW10 hgy
        go_wp2_with fail
        refine (VA.out _).mono ?_; rintro e w11 ⟨rfl, b11⟩
        have B11 : Hid (Below W6.heap.size W6 w11) := hwr.out.trans ((HB10.out.trans (b11.mono HB10.out.size)).mono HR7.out)
        have x11 := carry X9.out b11
        have y11 := carry Y10.out b11
        clear k0 k1' k2 b11
        obtain ⟨k0, k1', k2, _⟩ := at_blockQ x11
        obtain ⟨j0, j1, j2, _⟩ := at_blockQ y11
        clear x11 y11
        by_cases hE0 : E = 0
        · obtain ⟨e1, e2, e3, e4⟩ := OK hE0
          subst e1 e2 e3 e4 hE0
          clear OK
          go_wp2_with fail
          go_roundw
          case rel => exact ⟨i + 1, by omega, by go_num, B11⟩
          case measure => simp [intOf]; omega
        · have hEb : (E == 0) = false := by simp [hE0]
          clear OK hE0
          go_wp2_with fail
          go_roundw
          case rel => exact ⟨i + 1, by omega, by go_num, B11⟩
          case measure => simp [intOf]; omega
      · obtain rfl : i = 2 := by omega
        have AW := Lib.hid (awake8_v wr (EN.out.below BW.out))
        go_wp2_with fail
        refine AW.out.mono ?_; rintro e w9 ⟨rfl, b9⟩
        have B9 := Lib.hid (BW.out.trans (b9.mono BW.out.size))
        clear b9
        go_wp2_with fail
        go_ret
        exact ⟨rfl, B9.out⟩
end Go.Proofs.YtobiepkhommeaaaGreatDoor
/- QuantityBack holds for every input: Parse reads what Format writes; no condition. -/
namespace Go.Proofs.YtobiepkhommeaaaGreatDoor.lawQtyBack
open Go.ChangeShapes Go.WideShapes Go.ChangeAt Go.RowKit

set_option maxRecDepth 100000 in
set_option maxHeartbeats 1000000 in
theorem contract (H : Type) (enc : TypeId × Value → H) (W : World) (base : Nat) (args : Array Value) (ds gs : List (DataW H)) (before : List MemPlace)
    (hval : ∀ (j : Nat) t v, Tryz.f5.params[j]? = some t → args[j]? = some v → Value.okWide Tryz.prog W .any base t v)
    (hW : DataW.Whole enc Tryz.prog Tryz.f5.params.toList Rows.quantityBackSpec.vars false W args.toList ds gs before) (hL : laidMetH Tryz.prog Rows.quantityBackRow.laid W) (hsh : W.ShapedOpen Tryz.prog) :
    Calls Tryz.prog 5 args W fun e W' => ∃ v, e = .returned v ∧ Rows.quantityBackSpec.post enc Tryz.prog Tryz.f5 false true false false W args v W' := by
  have hW' := hW
  obtain ⟨p, q, hA0, _, _, _, _⟩ := hW
  have hA : DataW.TrodAll enc Tryz.prog W 0 (fun _ => true) true Tryz.f5.params.toList args.toList ds p := hA0
  rw [Tryz.params5] at hA hval
  obtain ⟨v0, vs0, d0, ds0, p0, q0, hargs, rfl, rfl, h0, r0⟩ := trodAll_cons hA
  obtain ⟨v1, vs1, d1, ds1, p1, q1, rfl, rfl, rfl, h1, r1⟩ := trodAll_cons r0
  obtain ⟨rfl, rfl, rfl⟩ := trodAll_nil r1
  obtain rfl : args = #[v0, v1] := by cases args; simp_all
  obtain ⟨d0, c0, a0, rfl, bq0⟩ := qty_open (hval 0 39 v0 rfl rfl) h0
  obtain ⟨ao1, zs1, cap1, rfl, hr1⟩ := ints_open8 (hval 1 40 v1 rfl rfl) h1
  refine (QuantityBack_any d0 c0 a0 ao1 zs1 cap1 W bq0 hr1 (env_of (tab_of7 hL) hsh)).mono ?_
  rintro e W' ⟨rfl, hb⟩
  exact ⟨_, rfl, law_post hW' rfl rfl rfl (by rw [Tryz.params5]; exact facts.readable_of8 (by decide)) hb⟩

theorem laid_met (os : Os) : laidMet Tryz.prog Rows.quantityBackRow.laid ((laidWorld7 os).forCall (fun _ _ => 0) ⟨#[], #[.agg #[.int .i64 0, .int .i64 0, .int .i64 0], .slice none 0 0], []⟩).memory :=
  laidMet_of_run' 8 (by kernel_rfl) (by kernel_rfl)
theorem reads (os : Os) {H : Type} (enc : TypeId × Value → H) : ∃ places, DataW.whole enc Tryz.prog ((laidWorld7 os).forCall (fun _ _ => 0) ⟨#[], #[.agg #[.int .i64 0, .int .i64 0, .int .i64 0], .slice none 0 0], []⟩).memory Tryz.f5.params.toList Rows.quantityBackSpec.vars false #[Value.agg #[.int .i64 0, .int .i64 0, .int .i64 0], .slice none 0 0].toList 8 = some ([.agg [.lit (.int .i64 0), .lit (.int .i64 0), .lit (.int .i64 0)], .nil], [], places) :=
  ⟨[], by kernel_rfl⟩

set_option maxRecDepth 100000 in
set_option maxHeartbeats 2000000 in
theorem lifted (os : Os) (started : os.Started) (H : Type) (enc : TypeId × Value → H) (F : Stop.Interp) :
    ReturnsInHanded {} Tryz.checked os 5 .any ((OpenSpec.ofChange Rows.quantityBackSpec).preRow enc Tryz.prog Tryz.f5 Rows.quantityBackRow.domain false Rows.quantityBackRow.laid) (((OpenSpec.ofChange Rows.quantityBackSpec).at F).post enc Tryz.prog Tryz.f5 false true false false) := by
  obtain ⟨places, hx⟩ := reads os enc
  refine returnsInHanded_of_row (C := Tryz.checked) (s := OpenSpec.ofChange Rows.quantityBackSpec) fr_own started (by kernel_rfl) Tryz.func5
    (witness_row_at (enc := enc) (C := Tryz.checked) false (laidWorld7 os) #[.agg #[.int .i64 0, .int .i64 0, .int .i64 0], .slice none 0 0] rfl (by kernel_rfl) (by kernel_rfl) (by kernel_rfl)
      (OpenSpec.preRow_of_cond 8 hx (by kernel_rfl) (fun k hk => by cases hk) (by kernel_rfl) (laid_met os))) ?_
  intro W base args ds gs before hval hW _ _ _ hL hsh _
  exact contract H enc W base args ds gs before hval hW hL hsh

set_option maxHeartbeats 8000000 in
theorem closed : joinedFacts Tryz.prog 5 Tryz.f5 Rows.quantityBackSpec Rows.quantityBackRow = true := by
  unfold joinedFacts
  repeat' (with_reducible refine facts.and_mk ?_ ?_)
  all_goals first
    | (with_reducible exact facts.laidOut) | (with_reducible exact facts.rowed) | (with_reducible exact facts.stops) | (with_reducible exact facts.stopKnobs) | (with_reducible exact facts.stopsHeard) | (with_reducible exact facts.mayEnter)
    | ((with_reducible refine facts.plainKeys_of ?_); rfl) | ((with_reducible refine facts.lifted_of ?_); rfl) | ((with_reducible refine facts.make_of ?_); rfl)
    | (as_aux_lemma => kernel_rfl)

set_option maxRecDepth 100000 in
theorem said : Rows.QuantityBackSaid :=
  OpenClaim.holds_of_cond 5 Tryz.f5 rfl rfl rfl rfl rfl rfl rfl ⟨rfl, rfl, rfl, rfl, rfl⟩ rfl rfl rfl rfl rfl (by kernel_rfl) Tryz.func5 closed
    (of_decide_eq_true (by kernel_rfl)) (by unfold Func.isWrapper; first | (rw [if_pos (by decide +kernel)]; kernel_rfl) | (rw [if_neg (by decide +kernel)]; exact ⟨rfl, rfl⟩))
    (fun os started H enc _ F => by rw [OpenClaim.pre_eq_preRow]; exact lifted os started H enc F)

theorem plain (f : FuncId) (fn : Func) (hf : Tryz.pinned.checked.prog.funcNamed "priceoffice/priceofficelaw08.QuantityBack" = some f) (hfn : Tryz.pinned.checked.prog.funcs[f]? = some fn) :
    Rows.rationalApartCard.stood.looks = Tryz.pinned.checked.prog.looks [] ∧ ∀ (j : Nat) t, fn.params[j]? = some t → Tryz.pinned.checked.prog.wantsStandIn t = false := by
  obtain rfl : f = 5 := Option.some.inj ((show Tryz.prog.funcNamed "priceoffice/priceofficelaw08.QuantityBack" = some 5 by kernel_rfl).symm.trans hf) |>.symm
  obtain rfl : fn = Tryz.f5 := (Option.some.inj (Tryz.func5.symm.trans hfn)).symm
  refine ⟨facts.looks, fun j t ht => ?_⟩
  rw [Tryz.params5] at ht
  exact facts.standIn_of8 (by decide) j t ht

theorem card : Rows.QuantityBackCardSaid :=
  Claim7.holds_tied_plain_at .later [] _ _ _ _ said (fun _ h => by cases h) (by kernel_rfl) (fun _ h => by cases h) quantityBack_row_tie rfl ⟨rfl, rfl⟩ facts.mainIs rfl plain (by kernel_rfl)
end Go.Proofs.YtobiepkhommeaaaGreatDoor.lawQtyBack
