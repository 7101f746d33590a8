import Derived.Test.YtobiepkhommeaaaGreatDoorQty18
import Derived.Test.YtobiepkhommeaaaGreatDoorQty19
import Derived.Test.YtobiepkhommeaaaGreatDoorQtysB
import Derived.Test.YtobiepkhommeaaaGreatDoorLast
import Derived.Test.YtobiepkhommeaaaGreatDoorPows2
import Derived.Deep.RegionHeld3
import Derived.Test.YtobiepkhommeaaaGreatDoorFacts8g
import Derived.Test.YtobiepkhommeaaaGreatDoorFrame8l
/- QuantityChains: the walk. -/
namespace Go.Proofs.YtobiepkhommeaaaGreatDoor
open Go.RowKit Go.Sort C6

def ChX (gb gc : Nat) (d1 d2 d3 c2 c3 a2 a3 : Int) (D : Nat → Bool) (_ : Nat → Value) (w : World) : Prop :=
  w.heap[gb]? = some (.cells #[.int .i64 (bif D 5 then d1 else d2), .int .i64 c2, .int .i64 a2] 39 (0, 0)) ∧ w.heap[gc]? = some (.cells #[.int .i64 (bif D 7 then d1 else d3), .int .i64 c3, .int .i64 a3] 39 (0, 0))
theorem ChX.setB {gb gc : Nat} {d1 d2 d3 c2 c3 a2 a3 : Int} {D : Nat → Bool} {f : Nat → Value} {w : World} (h : ChX gb gc d1 d2 d3 c2 c3 a2 a3 D f w) (hl : gb < gc) (f' : Nat → Value) : ChX gb gc d1 d2 d3 c2 c3 a2 a3 (upd D 5) f' (w.setCell ⟨gb, 0, none⟩ (.int .i64 d1)) := by
  obtain ⟨h1, h2⟩ := h
  refine ⟨?_, ?_⟩
  · show _ = some (Obj.cells #[.int .i64 d1, .int .i64 c2, .int .i64 a2] 39 (0, 0))
    simp [World.setCell, Array.getElem?_modify, h1]
  · show _ = some (Obj.cells #[.int .i64 (bif D 7 then d1 else d3), .int .i64 c3, .int .i64 a3] 39 (0, 0))
    have hne : ¬ gb = gc := by omega
    simp [World.setCell, Array.getElem?_modify, h2, hne]
theorem ChX.setC {gb gc : Nat} {d1 d2 d3 c2 c3 a2 a3 : Int} {D : Nat → Bool} {f : Nat → Value} {w : World} (h : ChX gb gc d1 d2 d3 c2 c3 a2 a3 D f w) (hl : gb < gc) (f' : Nat → Value) : ChX gb gc d1 d2 d3 c2 c3 a2 a3 (upd D 7) f' (w.setCell ⟨gc, 0, none⟩ (.int .i64 d1)) := by
  obtain ⟨h1, h2⟩ := h
  refine ⟨?_, ?_⟩
  · show _ = some (Obj.cells #[.int .i64 (bif D 5 then d1 else d2), .int .i64 c2, .int .i64 a2] 39 (0, 0))
    have hne : ¬ gc = gb := by omega
    simp [World.setCell, Array.getElem?_modify, h1, hne]
  · show _ = some (Obj.cells #[.int .i64 d1, .int .i64 c3, .int .i64 a3] 39 (0, 0))
    simp [World.setCell, Array.getElem?_modify, h2]
theorem rq_cancel {N D M : Nat} (hM : 0 < M) : rq false (N * M) (D * M) = rq false N D := by
  unfold rq
  rw [sg_mulr]
  exact Rat.mkRat_mul_right (by omega)
theorem rq_chain {p q r : Nat} (hq : 0 < q) : rq false q p * rq false r q = rq false r p := by
  rw [← rq_mul]
  show rq false (q * r) (p * q) = _
  rw [Nat.mul_comm q r]
  exact rq_cancel hq
theorem rq_same {p : Nat} (hp : 0 < p) : rq false p p = 1 := by
  have h := rq_cancel (N := 1) (D := 1) hp
  rw [Nat.one_mul] at h
  rw [h]
  rfl
theorem rq_back {p q : Nat} (hp : 0 < p) (hq : 0 < q) : rq false q p * rq false p q = 1 := by rw [rq_chain hq, rq_same hp]
theorem q_valid {d c a : Nat} (h1 : 1 ≤ d ∧ d ≤ 4) (h2 : 1 ≤ c ∧ c ≤ 11) (h3 : 1 ≤ a ∧ a ≤ 1500000) : qwhy (d : Int) (c : Int) (a : Int) = 0 := by
  refine qwhy_zero.2 ⟨by omega, by omega, by omega, by omega, by omega, ?_⟩
  refine Int.le_ediv_of_mul_le (by omega) ?_
  have : a * c ≤ 1500000 * 11 := Nat.mul_le_mul h3.2 h2.2
  have e : (a : Int) * (c : Int) = ((a * c : Nat) : Int) := (Int.natCast_mul a c).symm
  omega
theorem q_bd {d c a : Nat} (h1 : 1 ≤ d ∧ d ≤ 4) (h2 : 1 ≤ c ∧ c ≤ 11) (h3 : 1 ≤ a ∧ a ≤ 1500000) : QB (d : Int) (c : Int) (a : Int) := ⟨by omega, by omega, by omega, by omega, by omega, by omega⟩

set_option maxHeartbeats 40000000 in
set_option maxRecDepth 100000 in
theorem QuantityChains_any (ao : Option Addr) (ts : List Int) (cap : Nat) (w : World) (hr : RdZ w ao cap ts) (he : Env w) :
    Calls Tryz.prog 8 #[.slice ao ts.length cap] w fun e w' => e = .returned (.bool true) ∧ Below w.heap.size w w' := by
  obtain ⟨W1, hW1⟩ : ∃ W, W = w.alloc (.cells #[.slice ao ts.length cap, .int .i64 0] 43) := ⟨_, rfl⟩
  have b1 : Below w.heap.size w W1 := by rw [hW1]; exact below_new _ _
  obtain ⟨BB, hBB⟩ : ∃ B, B = w.heap.size := ⟨_, rfl⟩
  have hT : Tap W1 BB ao ts.length cap 0 := by rw [hW1, hBB]; exact Tap.new _ _ _ _
  have hR : RdZ W1 ao cap ts := RdV.below hr b1
  have hTB : 0 < (intz ts).length → ∀ b o, ao = some ⟨b, o, none⟩ → b < BB := fun h b o e => by
    have := hr.lt h b o e
    omega
  obtain ⟨nts, hnts⟩ : ∃ n, n = ts.length := ⟨_, rfl⟩
  have HQ : Hid (∀ i w', i ≤ 900 → RdZ w' ao cap ts → Tap w' BB ao nts cap i → Calls Tryz.prog 22 #[.pointer (some ⟨BB, 0, none⟩)] w' (TQPost w' BB ao nts cap i)) := fun i w' hi hr' ht' => by
    rw [hnts] at ht' ⊢; exact TQuantity_v BB ao cap ts i w' ht' hr' hTB hi
  have HRT : Hid (∀ i w', i ≤ 900 → RdZ w' ao cap ts → Tap w' BB ao nts cap i → Calls Tryz.prog 38 #[.pointer (some ⟨BB, 0, none⟩)] w' (TRPost w' BB ao nts cap i)) := fun i w' hi hr' ht' => by
    rw [hnts] at ht' ⊢; exact TRatio_v BB ao cap ts i w' ht' hr' hTB hi
  rw [← hnts] at hT hW1 ⊢
  have HT1 := Lib.hid hT
  have HR1 := Lib.hid hR
  have HTB := Lib.hid hTB
  have B1 := Lib.hid b1
  have EN := Lib.hid he
  have HBS := Lib.hid hBB
  clear hr he b1 hT hR hTB hnts
  go_enter Tryz.func8, Tryz.ntmps8
  go_wp2_with fail
  rw [← hW1, ← hBB]
  clear hW1 hBB
  refine (HQ.out 0 _ (by omega) HR1.out HT1.out).mono ?_; rintro e w2 ⟨d1, c1, a1, rfl, hd1, hc1, ha1, g2, t2⟩
  have HT2 := Lib.hid t2
  have HR2 := Lib.hid (rd_gb HR1.out HTB.out (Nat.le_of_lt HT1.out.lt) g2)
  have HG2 := Lib.hid g2
  clear g2 t2
  go_wp2_with fail
  refine (HQ.out _ _ (by omega) HR2.out HT2.out).mono ?_; rintro e w3 ⟨d2, c2, a2, rfl, hd2, hc2, ha2, g3, t3⟩
  have HT3 := Lib.hid t3
  have HR3 := Lib.hid (rd_gb HR2.out HTB.out (Nat.le_of_lt HT2.out.lt) g3)
  have HG3 := Lib.hid (gb_trans HG2.out g3)
  clear g3 t3
  go_wp2_with fail
  refine (HQ.out _ _ (by omega) HR3.out HT3.out).mono ?_; rintro e w4 ⟨d3, c3, a3, rfl, hd3, hc3, ha3, g4, t4⟩
  have HT4 := Lib.hid t4
  have HR4 := Lib.hid (rd_gb HR3.out HTB.out (Nat.le_of_lt HT3.out.lt) g4)
  have HG4 := Lib.hid (gb_trans HG3.out g4)
  clear g4 t4
  obtain ⟨Va, hVa⟩ : ∃ W, W = w4.alloc (.cells #[.int .i64 (d1 : Int), .int .i64 (c1 : Int), .int .i64 (a1 : Int)] 39) := ⟨_, rfl⟩
  obtain ⟨Vb, hVb⟩ : ∃ W, W = Va.alloc (.cells #[.int .i64 (d2 : Int), .int .i64 (c2 : Int), .int .i64 (a2 : Int)] 39) := ⟨_, rfl⟩
  obtain ⟨W5, hW5⟩ : ∃ W, W = Vb.alloc (.cells #[.int .i64 (d3 : Int), .int .i64 (c3 : Int), .int .i64 (a3 : Int)] 39) := ⟨_, rfl⟩
  obtain ⟨ga, hga⟩ : ∃ g, g = w4.heap.size := ⟨_, rfl⟩
  have sa : Va.heap.size = ga + 1 := by rw [hVa, World.size_alloc, hga]
  have sb : Vb.heap.size = ga + 1 + 1 := by rw [hVb, World.size_alloc, sa]
  have ba : Below w4.heap.size w4 Va := by rw [hVa]; exact below_new _ _
  have bb : Below Va.heap.size Va Vb := by rw [hVb]; exact below_new _ _
  have bc : Below Vb.heap.size Vb W5 := by rw [hW5]; exact below_new _ _
  have xa : Va.heap[ga]? = some (.cells #[.int .i64 (d1 : Int), .int .i64 (c1 : Int), .int .i64 (a1 : Int)] 39 (0, 0)) := by rw [hVa, hga]; exact heap_alloc_new _ _
  have xb : Vb.heap[ga + 1]? = some (.cells #[.int .i64 (d2 : Int), .int .i64 (c2 : Int), .int .i64 (a2 : Int)] 39 (0, 0)) := by rw [hVb, ← sa]; exact heap_alloc_new _ _
  have xc : W5.heap[ga + 1 + 1]? = some (.cells #[.int .i64 (d3 : Int), .int .i64 (c3 : Int), .int .i64 (a3 : Int)] 39 (0, 0)) := by rw [hW5, ← sb]; exact heap_alloc_new _ _
  have b5 := (ba.trans (bb.mono ba.size)).trans (bc.mono (Nat.le_trans ba.size bb.size))
  have XA := Lib.hid (carry (carry xa bb) bc)
  have HT5 := Lib.hid (HT4.out.keep b5)
  have HR5 := Lib.hid (RdV.below HR4.out b5)
  have HG5 := Lib.hid (gb_trans HG4.out (below_gb b5 (some BB)))
  have hBa : BB < ga := by rw [hga]; exact HT4.out.lt
  have HGS : Hid (W1.heap.size ≤ ga) := by rw [hga]; exact HG4.out.size
  obtain ⟨gb, hgb⟩ : ∃ g, g = ga + 1 := ⟨_, rfl⟩
  obtain ⟨gc, hgc⟩ : ∃ g, g = ga + 1 + 1 := ⟨_, rfl⟩
  have XB := Lib.hid (carry xb bc)
  have XC := Lib.hid xc
  have HL : Hid (ga < gb ∧ gb < gc) := ⟨by omega, by omega⟩
  have HBA := Lib.hid hBa
  obtain ⟨va, hva⟩ : ∃ t, t = (qtot (d1 : Int) (c1 : Int) (a1 : Int)).toNat := ⟨_, rfl⟩
  obtain ⟨vb, hvb⟩ : ∃ t, t = (qtot (d1 : Int) (c2 : Int) (a2 : Int)).toNat := ⟨_, rfl⟩
  obtain ⟨vc, hvc⟩ : ∃ t, t = (qtot (d1 : Int) (c3 : Int) (a3 : Int)).toNat := ⟨_, rfl⟩
  obtain ⟨su, hsu⟩ : ∃ t, t = (stdU (d1 : Int)).size.toNat := ⟨_, rfl⟩
  have y1 := q_valid hd1 hc1 ha1
  have y2 := q_valid hd1 hc2 ha2
  have y3 := q_valid hd1 hc3 ha3
  have z1 := q_bd hd1 hc1 ha1
  have z2 := q_bd hd1 hc2 ha2
  have z3 := q_bd hd1 hc3 ha3
  have pa : 0 < va := by rw [hva]; have := (qtot_pos y1).1; omega
  have pb : 0 < vb := by rw [hvb]; have := (qtot_pos y2).1; omega
  have EQ1 := Lib.hid (rq_chain (p := va) (r := vc) pb)
  have EQ2 := Lib.hid (rq_back pa pb)
  have EQ3 : Hid (∀ P : Rat, P * rq false su va = P * rq false vb va * rq false su vb) := fun P => by rw [Rat.mul_assoc, rq_chain pb]
  have FAB : Hid (∀ w', Calls Tryz.prog 32 #[.agg #[.int .i64 (d1 : Int), .int .i64 (c1 : Int), .int .i64 (a1 : Int)], .agg #[.int .i64 (d1 : Int), .int .i64 (c2 : Int), .int .i64 (a2 : Int)]] w' (QRes 0 (rq false vb va) 2 w')) := fun w' => by
    have h := Factor_v _ _ _ _ _ _ z1 z2 w'
    rw [facQ_ok (facE_ok y1 y2 rfl), facE_ok y1 y2 rfl, ← hva, ← hvb] at h
    exact h
  have FBC : Hid (∀ w', Calls Tryz.prog 32 #[.agg #[.int .i64 (d1 : Int), .int .i64 (c2 : Int), .int .i64 (a2 : Int)], .agg #[.int .i64 (d1 : Int), .int .i64 (c3 : Int), .int .i64 (a3 : Int)]] w' (QRes 0 (rq false vc vb) 2 w')) := fun w' => by
    have h := Factor_v _ _ _ _ _ _ z2 z3 w'
    rw [facQ_ok (facE_ok y2 y3 rfl), facE_ok y2 y3 rfl, ← hvb, ← hvc] at h
    exact h
  have FAC : Hid (∀ w', Calls Tryz.prog 32 #[.agg #[.int .i64 (d1 : Int), .int .i64 (c1 : Int), .int .i64 (a1 : Int)], .agg #[.int .i64 (d1 : Int), .int .i64 (c3 : Int), .int .i64 (a3 : Int)]] w' (QRes 0 (rq false vc va) 2 w')) := fun w' => by
    have h := Factor_v _ _ _ _ _ _ z1 z3 w'
    rw [facQ_ok (facE_ok y1 y3 rfl), facE_ok y1 y3 rfl, ← hva, ← hvc] at h
    exact h
  have FBA : Hid (∀ w', Calls Tryz.prog 32 #[.agg #[.int .i64 (d1 : Int), .int .i64 (c2 : Int), .int .i64 (a2 : Int)], .agg #[.int .i64 (d1 : Int), .int .i64 (c1 : Int), .int .i64 (a1 : Int)]] w' (QRes 0 (rq false va vb) 2 w')) := fun w' => by
    have h := Factor_v _ _ _ _ _ _ z2 z1 w'
    rw [facQ_ok (facE_ok y2 y1 rfl), facE_ok y2 y1 rfl, ← hvb, ← hva] at h
    exact h
  have SCA : Hid (∀ (P : Rat) (s : Bool) (ao bo : Option Addr) (n ca m cb : Nat) (w' : World), RQ w' s ao n ca bo m cb P 2 → Calls Tryz.prog 36 #[.agg #[.bool s, .slice ao n ca, .slice bo m cb], .agg #[.int .i64 (d1 : Int), .int .i64 (c1 : Int), .int .i64 (a1 : Int)], .agg #[.int .i64 (d1 : Int), .int .i64 (c2 : Int), .int .i64 (a2 : Int)]] w' (QRes 0 (P * rq false vb va) 5 w')) := fun P s ao bo n ca m cb w' hp => by
    have h := Scale_v s ao bo n ca m cb 2 P _ _ _ _ _ _ z1 z2 w' hp (by omega) (by omega)
    rw [facQ_ok (facE_ok y1 y2 rfl), facE_ok y1 y2 rfl, ← hva, ← hvb] at h
    exact h
  have UPA : Hid (∀ (P : Rat) (s : Bool) (ao bo : Option Addr) (n ca m cb : Nat) (w' : World), RQ w' s ao n ca bo m cb P 2 → Calls Tryz.prog 34 #[.agg #[.bool s, .slice ao n ca, .slice bo m cb], .agg #[.int .i64 (d1 : Int), .int .i64 (c1 : Int), .int .i64 (a1 : Int)]] w' (QRes 0 (P * rq false su va) 5 w')) := fun P s ao bo n ca m cb w' hp => by
    have h := UnitPrice_v s ao bo n ca m cb 2 P _ _ _ z1 w' hp (by omega) (by omega)
    rw [uniQ_ok y1, y1, ← hva, ← hsu] at h
    exact h
  have UPB : Hid (∀ (P : Rat) (s : Bool) (ao bo : Option Addr) (n ca m cb : Nat) (w' : World), RQ w' s ao n ca bo m cb P 5 → Calls Tryz.prog 34 #[.agg #[.bool s, .slice ao n ca, .slice bo m cb], .agg #[.int .i64 (d1 : Int), .int .i64 (c2 : Int), .int .i64 (a2 : Int)]] w' (QRes 0 (P * rq false su vb) 11 w')) := fun P s ao bo n ca m cb w' hp => by
    have h := UnitPrice_v s ao bo n ca m cb 5 P _ _ _ z2 w' hp (by omega) (by omega)
    rw [uniQ_ok y2, y2, ← hvb, ← hsu] at h
    exact h
  clear y1 y2 y3 z1 z2 z3 pa pb hva hvb hvc hsu
  go_upto_region 3 with fail
  rw [← hVa, ← hVb, ← hW5, ← hga]
  unfold Hid at XB XC
  rw [← hgb] at XB
  rw [← hgc] at XC
  rw [← hgc, ← hgb]
  have XB := Lib.hid XB
  have XC := Lib.hid XC
  clear hVa hVb hW5 hga sa sb ba bb bc xa xb xc b5 hgb hgc hBa
  refine wp_region_any (by kernel_rfl) ?_
  refine region_ssa [32, 33, 34, 35, 36, 37] (Below gb W5) (Below gb) (ValR [some (.inl (.pointer (some ⟨ga, 0, none⟩))), some (.inl (.int .i64 (d1 : Int))), some (.inl (.pointer (some ⟨ga, 0, none⟩))), some (.inl (.int .i64 (d1 : Int))), some (.inl (.pointer (some ⟨gb, 0, none⟩))), none, some (.inl (.pointer (some ⟨gc, 0, none⟩))), none]) (ChX gb gc (d1 : Int) (d2 : Int) (d3 : Int) (c2 : Int) (c3 : Int) (a2 : Int) (a3 : Int)) (fun f => rfl) (by kernel_rfl) (by kernel_rfl) ?_ ?_ ?_ ?_ (AllFrom.below (n := 8) ?_) ?_
  · exact (Below.refl _ _).drew
  · intro f; exact ⟨XB.out, XC.out⟩
  · intro i v w1 w2 _ h _; exact h
  · intro w1 w2 hB hE; exact hB.trans hE
  · refine AllFrom.step (m := 7) (j := 1) rfl ?_ ?_
    · intro D f w1 hD hB hR hp hcl hX
      refine wpOp_step rfl (fun K hK => ?_)
      simp only [putAll, Act.put, List.setIfInBounds_toArray, List.set_cons_succ, List.set_cons_zero]
      go_simp
      exact hK _ _ ⟨(.pointer (some ⟨ga, 0, none⟩)), (by show _ = Act.put _ (some 32) _; simp only [putAll, Act.put, List.setIfInBounds_toArray, List.set_cons_succ, List.set_cons_zero, *]), rfl, Below.refl _ _, hX⟩
    refine AllFrom.step (m := 6) (j := 2) rfl ?_ ?_
    · intro D f w1 hD hB hR hp hcl hX
      have e0 : f 32 = (.pointer (some ⟨ga, 0, none⟩)) := (hp_at hp 0 (by kernel_rfl)).2
      obtain ⟨i0, i1, i2, _⟩ := at_blockQ ((hB.block ga HL.out.1).trans XA.out)
      refine wpOp_step rfl (fun K hK => ?_)
      simp only [putAll, Act.put, List.setIfInBounds_toArray, List.set_cons_succ, List.set_cons_zero]
      go_simp
      exact hK _ _ ⟨(.int .i64 (d1 : Int)), (by show _ = Act.put _ (some 33) _; simp only [putAll, Act.put, List.setIfInBounds_toArray, List.set_cons_succ, List.set_cons_zero, *]), rfl, Below.refl _ _, hX⟩
    refine AllFrom.step (m := 5) (j := 3) rfl ?_ ?_
    · intro D f w1 hD hB hR hp hcl hX
      refine wpOp_step rfl (fun K hK => ?_)
      simp only [putAll, Act.put, List.setIfInBounds_toArray, List.set_cons_succ, List.set_cons_zero]
      go_simp
      exact hK _ _ ⟨(.pointer (some ⟨ga, 0, none⟩)), (by show _ = Act.put _ (some 34) _; simp only [putAll, Act.put, List.setIfInBounds_toArray, List.set_cons_succ, List.set_cons_zero, *]), rfl, Below.refl _ _, hX⟩
    refine AllFrom.step (m := 4) (j := 4) rfl ?_ ?_
    · intro D f w1 hD hB hR hp hcl hX
      have e2 : f 34 = (.pointer (some ⟨ga, 0, none⟩)) := (hp_at hp 2 (by kernel_rfl)).2
      obtain ⟨i0, i1, i2, _⟩ := at_blockQ ((hB.block ga HL.out.1).trans XA.out)
      refine wpOp_step rfl (fun K hK => ?_)
      simp only [putAll, Act.put, List.setIfInBounds_toArray, List.set_cons_succ, List.set_cons_zero]
      go_simp
      exact hK _ _ ⟨(.int .i64 (d1 : Int)), (by show _ = Act.put _ (some 35) _; simp only [putAll, Act.put, List.setIfInBounds_toArray, List.set_cons_succ, List.set_cons_zero, *]), rfl, Below.refl _ _, hX⟩
    refine AllFrom.step (m := 3) (j := 5) rfl ?_ ?_
    · intro D f w1 hD hB hR hp hcl hX
      refine wpOp_step rfl (fun K hK => ?_)
      simp only [putAll, Act.put, List.setIfInBounds_toArray, List.set_cons_succ, List.set_cons_zero]
      go_simp
      exact hK _ _ ⟨(.pointer (some ⟨gb, 0, none⟩)), (by show _ = Act.put _ (some 36) _; simp only [putAll, Act.put, List.setIfInBounds_toArray, List.set_cons_succ, List.set_cons_zero, *]), rfl, Below.refl _ _, hX⟩
    refine AllFrom.step (m := 2) (j := 6) rfl ?_ ?_
    · intro D f w1 hD hB hR hp hcl hX
      have e1 : f 33 = (.int .i64 (d1 : Int)) := (hp_at hp 1 (by kernel_rfl)).2
      have e4 : f 36 = (.pointer (some ⟨gb, 0, none⟩)) := (hp_at hp 4 (by kernel_rfl)).2
      obtain ⟨i0, i1, i2, p0, p1, p2⟩ := at_blockQ hX.1
      refine wpOp_step rfl (fun K hK => ?_)
      simp only [putAll, Act.put, List.setIfInBounds_toArray, List.set_cons_succ, List.set_cons_zero]
      go_simp
      exact hK _ _ ⟨undef, (by show _ = Act.put _ (none) _; simp only [putAll, Act.put, List.setIfInBounds_toArray, List.set_cons_succ, List.set_cons_zero, *]), trivial, Below.setCell (p := ⟨gb, 0, none⟩) (Below.refl gb w1) (Nat.le_refl gb) _, ChX.setB hX HL.out.2 _⟩
    refine AllFrom.step (m := 1) (j := 7) rfl ?_ ?_
    · intro D f w1 hD hB hR hp hcl hX
      refine wpOp_step rfl (fun K hK => ?_)
      simp only [putAll, Act.put, List.setIfInBounds_toArray, List.set_cons_succ, List.set_cons_zero]
      go_simp
      exact hK _ _ ⟨(.pointer (some ⟨gc, 0, none⟩)), (by show _ = Act.put _ (some 37) _; simp only [putAll, Act.put, List.setIfInBounds_toArray, List.set_cons_succ, List.set_cons_zero, *]), rfl, Below.refl _ _, hX⟩
    refine AllFrom.step (m := 0) (j := 8) rfl ?_ ?_
    · intro D f w1 hD hB hR hp hcl hX
      have e3 : f 35 = (.int .i64 (d1 : Int)) := (hp_at hp 3 (by kernel_rfl)).2
      have e6 : f 37 = (.pointer (some ⟨gc, 0, none⟩)) := (hp_at hp 6 (by kernel_rfl)).2
      obtain ⟨i0, i1, i2, p0, p1, p2⟩ := at_blockQ hX.2
      refine wpOp_step rfl (fun K hK => ?_)
      simp only [putAll, Act.put, List.setIfInBounds_toArray, List.set_cons_succ, List.set_cons_zero]
      go_simp
      exact hK _ _ ⟨undef, (by show _ = Act.put _ (none) _; simp only [putAll, Act.put, List.setIfInBounds_toArray, List.set_cons_succ, List.set_cons_zero, *]), trivial, Below.setCell (p := ⟨gc, 0, none⟩) (Below.refl gb w1) (Nat.le_of_lt HL.out.2) _, ChX.setC hX HL.out.2 _⟩
    exact AllFrom.nil
  · intro D f w1 hall hB hR hX
    simp only [putAll, Act.put, List.setIfInBounds_toArray, List.set_cons_succ, List.set_cons_zero]
    obtain ⟨xb, xc⟩ := hX
    have h5 := hall 5 (by decide)
    have h7 := hall 7 (by decide)
    rw [h5] at xb
    rw [h7] at xc
    have XA6 := Lib.hid ((hB.block ga HL.out.1).trans XA.out)
    have XB6 : Hid (w1.heap[gb]? = some (.cells #[.int .i64 (d1 : Int), .int .i64 (c2 : Int), .int .i64 (a2 : Int)] 39 (0, 0))) := xb
    have XC6 : Hid (w1.heap[gc]? = some (.cells #[.int .i64 (d1 : Int), .int .i64 (c3 : Int), .int .i64 (a3 : Int)] 39 (0, 0))) := xc
    have HT6 : Hid (Tap w1 BB ao nts cap (0 + 3 + 3 + 3)) := (hB.block BB (by have := HL.out; have := HBA.out; omega)).trans HT5.out
    have HR6 : Hid (RdZ w1 ao cap ts) := RdV.keep HR5.out HTB.out (hB.mono (by have := HL.out; have := HBA.out; omega))
    have HG6 : Hid (W1.grownBy w1 (some BB)) := by
      have hs := HG5.out.size
      have h1 := HL.out
      have h2 := HGS.out
      exact ⟨hB.os.trans HG5.out.os, hB.tape.trans HG5.out.tape, hB.output.trans HG5.out.output, Nat.le_trans hs hB.size, fun i hi hne => (hB.block i (by omega)).trans (HG5.out.block i hi hne)⟩
    have HSC : Hid (gc < w1.heap.size) := (Array.getElem?_eq_some_iff.1 xc).1
    clear hB hR hall h5 h7 xb xc HT5 HR5 HG5 XA XB XC HT4 HR4 HG4 HT3 HR3 HG3 HT2 HR2 HG2 HT1 HR1 HGS
    go_wp2_with fail
    refine (HRT.out _ _ (by omega) HR6.out HT6.out).mono ?_; rintro e w7 ⟨s7, e7, n7, k7, o7, m7, t7, P, rfl, cq7, gg7, tt7⟩
    have nn7 := below_new w7 (.cells #[.bool s7, .slice e7 n7 k7, .slice o7 m7 t7] 25)
    have yy7 := heap_alloc_new w7 (.cells #[.bool s7, .slice e7 n7 k7, .slice o7 m7 t7] 25)
    have cc7 := (cq7.below nn7).mono (Nat.zero_le _)
    have hne : ∀ g, ga ≤ g → some g ≠ some BB := fun g hg e => by cases e; have := HBA.out; omega
    have YA := carry ((gg7.block ga (by have := HL.out; have := HSC.out; omega) (hne _ (Nat.le_refl _))).trans XA6.out) nn7
    have YB := carry ((gg7.block gb (by have := HL.out; have := HSC.out; omega) (hne _ (by have := HL.out; omega))).trans XB6.out) nn7
    have YC := carry ((gg7.block gc HSC.out (hne _ (by have := HL.out; omega))).trans XC6.out) nn7
    have hb7 : Below BB w w7 := by
      have h1 := (gb_trans HG6.out gg7)
      have h2 := gb_below h1 (by have := B1.out.size; have := HBS.out; omega)
      exact (B1.out.mono (by have := HBS.out; omega)).trans h2
    have hbb7 := hb7.trans (nn7.mono (by have := hb7.size; have := HBS.out; omega))
    obtain ⟨W7, hW7⟩ : ∃ W, W = w7.alloc (.cells #[.bool s7, .slice e7 n7 k7, .slice o7 m7 t7] 25) := ⟨_, rfl⟩
    obtain ⟨g7, hg7⟩ : ∃ g, g = w7.heap.size := ⟨_, rfl⟩
    rw [← hW7] at yy7 cc7 YA YB YC hbb7
    rw [← hg7] at yy7
    have HBB := Lib.hid hbb7
    have Xa := Lib.hid YA
    have Xb := Lib.hid YB
    have Xc := Lib.hid YC
    have Xr7 := Lib.hid yy7
    have Cr7 := Lib.hid cc7
    clear cq7 gg7 tt7 nn7 yy7 cc7 YA YB YC hb7 hbb7 hne XA6 XB6 XC6 HT6 HR6 HG6 HSC HQ HRT HTB B1
    go_upto_region 5 with fail
    rw [← hW7, ← hg7]
    clear hW7 hg7
    obtain ⟨ax0, ax1, ax2, _⟩ := at_blockQ Xa.out
    obtain ⟨bx0, bx1, bx2, _⟩ := at_blockQ Xb.out
    go_wp2_with fail
    refine (FAB.out _).mono ?_; rintro e U8 ⟨s8, e8, n8, k8, o8, m8, t8, rfl, cq8, bu8⟩
    have nn8 := below_new U8 (.cells #[.bool s8, .slice e8 n8 k8, .slice o8 m8 t8] 25)
    have yy8 := heap_alloc_new U8 (.cells #[.bool s8, .slice e8 n8 k8, .slice o8 m8 t8] 25)
    have bb8 := bu8.trans (nn8.mono bu8.size)
    have cc8 := (cq8.below nn8).mono (Nat.zero_le _)
    have Ya := carry Xa.out bb8
    have Yb := carry Xb.out bb8
    have Yc := carry Xc.out bb8
    have Yr7 := carry Xr7.out bb8
    have Dr7 := Cr7.out.below bb8
    obtain ⟨W8, hW8⟩ : ∃ W, W = U8.alloc (.cells #[.bool s8, .slice e8 n8 k8, .slice o8 m8 t8] 25) := ⟨_, rfl⟩
    obtain ⟨g8, hg8⟩ : ∃ g, g = U8.heap.size := ⟨_, rfl⟩
    rw [← hW8] at yy8 bb8 cc8 Ya Yb Yc Yr7 Dr7
    rw [← hg8] at yy8
    have BB8 := Lib.hid (HBB.out.trans (bb8.mono (by have := HBB.out.size; have := HBS.out; omega)))
    clear HBB Xa Xb Xc Xr7 Cr7 ax0 ax1 ax2 bx0 bx1 bx2
    have HBB := BB8
    have Xa := Lib.hid Ya
    have Xb := Lib.hid Yb
    have Xc := Lib.hid Yc
    have Xr7 := Lib.hid Yr7
    have Cr7 := Lib.hid Dr7
    have Xr8 := Lib.hid yy8
    have Cr8 := Lib.hid cc8
    clear BB8 cq8 bu8 nn8 yy8 bb8 cc8 Ya Yb Yc Yr7 Dr7
    go_upto_region 6 with fail
    rw [← hW8, ← hg8]
    clear hW8 hg8
    obtain ⟨bx0, bx1, bx2, _⟩ := at_blockQ Xb.out
    obtain ⟨cx0, cx1, cx2, _⟩ := at_blockQ Xc.out
    go_wp2_with fail
    refine (FBC.out _).mono ?_; rintro e U10 ⟨s10, e10, n10, k10, o10, m10, t10, rfl, cq10, bu10⟩
    have nn10 := below_new U10 (.cells #[.bool s10, .slice e10 n10 k10, .slice o10 m10 t10] 25)
    have yy10 := heap_alloc_new U10 (.cells #[.bool s10, .slice e10 n10 k10, .slice o10 m10 t10] 25)
    have bb10 := bu10.trans (nn10.mono bu10.size)
    have cc10 := (cq10.below nn10).mono (Nat.zero_le _)
    have Ya := carry Xa.out bb10
    have Yb := carry Xb.out bb10
    have Yc := carry Xc.out bb10
    have Yr7 := carry Xr7.out bb10
    have Yr8 := carry Xr8.out bb10
    have Dr7 := Cr7.out.below bb10
    have Dr8 := Cr8.out.below bb10
    obtain ⟨W10, hW10⟩ : ∃ W, W = U10.alloc (.cells #[.bool s10, .slice e10 n10 k10, .slice o10 m10 t10] 25) := ⟨_, rfl⟩
    obtain ⟨g10, hg10⟩ : ∃ g, g = U10.heap.size := ⟨_, rfl⟩
    rw [← hW10] at yy10 bb10 cc10 Ya Yb Yc Yr7 Yr8 Dr7 Dr8
    rw [← hg10] at yy10
    have BB10 := Lib.hid (HBB.out.trans (bb10.mono (by have := HBB.out.size; have := HBS.out; omega)))
    clear HBB Xa Xb Xc Xr7 Xr8 Cr7 Cr8 bx0 bx1 bx2 cx0 cx1 cx2
    have HBB := BB10
    have Xa := Lib.hid Ya
    have Xb := Lib.hid Yb
    have Xc := Lib.hid Yc
    have Xr7 := Lib.hid Yr7
    have Xr8 := Lib.hid Yr8
    have Cr7 := Lib.hid Dr7
    have Cr8 := Lib.hid Dr8
    have Xr10 := Lib.hid yy10
    have Cr10 := Lib.hid cc10
    clear BB10 cq10 bu10 nn10 yy10 bb10 cc10 Ya Yb Yc Yr7 Yr8 Dr7 Dr8
    go_upto_region 7 with fail
    rw [← hW10, ← hg10]
    clear hW10 hg10
    obtain ⟨ax0, ax1, ax2, _⟩ := at_blockQ Xa.out
    obtain ⟨cx0, cx1, cx2, _⟩ := at_blockQ Xc.out
    go_wp2_with fail
    refine (FAC.out _).mono ?_; rintro e U12 ⟨s12, e12, n12, k12, o12, m12, t12, rfl, cq12, bu12⟩
    have nn12 := below_new U12 (.cells #[.bool s12, .slice e12 n12 k12, .slice o12 m12 t12] 25)
    have yy12 := heap_alloc_new U12 (.cells #[.bool s12, .slice e12 n12 k12, .slice o12 m12 t12] 25)
    have bb12 := bu12.trans (nn12.mono bu12.size)
    have cc12 := (cq12.below nn12).mono (Nat.zero_le _)
    have Ya := carry Xa.out bb12
    have Yb := carry Xb.out bb12
    have Yc := carry Xc.out bb12
    have Yr7 := carry Xr7.out bb12
    have Yr8 := carry Xr8.out bb12
    have Yr10 := carry Xr10.out bb12
    have Dr7 := Cr7.out.below bb12
    have Dr8 := Cr8.out.below bb12
    have Dr10 := Cr10.out.below bb12
    obtain ⟨W12, hW12⟩ : ∃ W, W = U12.alloc (.cells #[.bool s12, .slice e12 n12 k12, .slice o12 m12 t12] 25) := ⟨_, rfl⟩
    obtain ⟨g12, hg12⟩ : ∃ g, g = U12.heap.size := ⟨_, rfl⟩
    rw [← hW12] at yy12 bb12 cc12 Ya Yb Yc Yr7 Yr8 Yr10 Dr7 Dr8 Dr10
    rw [← hg12] at yy12
    have BB12 := Lib.hid (HBB.out.trans (bb12.mono (by have := HBB.out.size; have := HBS.out; omega)))
    clear HBB Xa Xb Xc Xr7 Xr8 Xr10 Cr7 Cr8 Cr10 ax0 ax1 ax2 cx0 cx1 cx2
    have HBB := BB12
    have Xa := Lib.hid Ya
    have Xb := Lib.hid Yb
    have Xc := Lib.hid Yc
    have Xr7 := Lib.hid Yr7
    have Xr8 := Lib.hid Yr8
    have Xr10 := Lib.hid Yr10
    have Cr7 := Lib.hid Dr7
    have Cr8 := Lib.hid Dr8
    have Cr10 := Lib.hid Dr10
    have Xr12 := Lib.hid yy12
    have Cr12 := Lib.hid cc12
    clear BB12 cq12 bu12 nn12 yy12 bb12 cc12 Ya Yb Yc Yr7 Yr8 Yr10 Dr7 Dr8 Dr10
    go_upto_region 8 with fail
    rw [← hW12, ← hg12]
    clear hW12 hg12
    obtain ⟨bx0, bx1, bx2, _⟩ := at_blockQ Xb.out
    obtain ⟨ax0, ax1, ax2, _⟩ := at_blockQ Xa.out
    go_wp2_with fail
    refine (FBA.out _).mono ?_; rintro e U14 ⟨s14, e14, n14, k14, o14, m14, t14, rfl, cq14, bu14⟩
    have nn14 := below_new U14 (.cells #[.bool s14, .slice e14 n14 k14, .slice o14 m14 t14] 25)
    have yy14 := heap_alloc_new U14 (.cells #[.bool s14, .slice e14 n14 k14, .slice o14 m14 t14] 25)
    have bb14 := bu14.trans (nn14.mono bu14.size)
    have cc14 := (cq14.below nn14).mono (Nat.zero_le _)
    have Ya := carry Xa.out bb14
    have Yb := carry Xb.out bb14
    have Yc := carry Xc.out bb14
    have Yr7 := carry Xr7.out bb14
    have Yr8 := carry Xr8.out bb14
    have Yr10 := carry Xr10.out bb14
    have Yr12 := carry Xr12.out bb14
    have Dr7 := Cr7.out.below bb14
    have Dr8 := Cr8.out.below bb14
    have Dr10 := Cr10.out.below bb14
    have Dr12 := Cr12.out.below bb14
    obtain ⟨W14, hW14⟩ : ∃ W, W = U14.alloc (.cells #[.bool s14, .slice e14 n14 k14, .slice o14 m14 t14] 25) := ⟨_, rfl⟩
    obtain ⟨g14, hg14⟩ : ∃ g, g = U14.heap.size := ⟨_, rfl⟩
    rw [← hW14] at yy14 bb14 cc14 Ya Yb Yc Yr7 Yr8 Yr10 Yr12 Dr7 Dr8 Dr10 Dr12
    rw [← hg14] at yy14
    have BB14 := Lib.hid (HBB.out.trans (bb14.mono (by have := HBB.out.size; have := HBS.out; omega)))
    clear HBB Xa Xb Xc Xr7 Xr8 Xr10 Xr12 Cr7 Cr8 Cr10 Cr12 bx0 bx1 bx2 ax0 ax1 ax2
    have HBB := BB14
    have Xa := Lib.hid Ya
    have Xb := Lib.hid Yb
    have Xc := Lib.hid Yc
    have Xr7 := Lib.hid Yr7
    have Xr8 := Lib.hid Yr8
    have Xr10 := Lib.hid Yr10
    have Xr12 := Lib.hid Yr12
    have Cr7 := Lib.hid Dr7
    have Cr8 := Lib.hid Dr8
    have Cr10 := Lib.hid Dr10
    have Cr12 := Lib.hid Dr12
    have Xr14 := Lib.hid yy14
    have Cr14 := Lib.hid cc14
    clear BB14 cq14 bu14 nn14 yy14 bb14 cc14 Ya Yb Yc Yr7 Yr8 Yr10 Yr12 Dr7 Dr8 Dr10 Dr12
    go_upto_region 9 with fail
    rw [← hW14, ← hg14]
    clear hW14 hg14
    obtain ⟨r7x0, r7x1, r7x2, _⟩ := at_blockQ Xr7.out
    obtain ⟨ax0, ax1, ax2, _⟩ := at_blockQ Xa.out
    obtain ⟨bx0, bx1, bx2, _⟩ := at_blockQ Xb.out
    go_wp2_with fail
    refine (SCA.out _ _ _ _ _ _ _ _ _ Cr7.out.rq).mono ?_; rintro e U16 ⟨s16, e16, n16, k16, o16, m16, t16, rfl, cq16, bu16⟩
    have nn16 := below_new U16 (.cells #[.bool s16, .slice e16 n16 k16, .slice o16 m16 t16] 25)
    have yy16 := heap_alloc_new U16 (.cells #[.bool s16, .slice e16 n16 k16, .slice o16 m16 t16] 25)
    have bb16 := bu16.trans (nn16.mono bu16.size)
    have cc16 := (cq16.below nn16).mono (Nat.zero_le _)
    have Ya := carry Xa.out bb16
    have Yb := carry Xb.out bb16
    have Yc := carry Xc.out bb16
    have Yr7 := carry Xr7.out bb16
    have Yr8 := carry Xr8.out bb16
    have Yr10 := carry Xr10.out bb16
    have Yr12 := carry Xr12.out bb16
    have Yr14 := carry Xr14.out bb16
    have Dr7 := Cr7.out.below bb16
    have Dr8 := Cr8.out.below bb16
    have Dr10 := Cr10.out.below bb16
    have Dr12 := Cr12.out.below bb16
    have Dr14 := Cr14.out.below bb16
    obtain ⟨W16, hW16⟩ : ∃ W, W = U16.alloc (.cells #[.bool s16, .slice e16 n16 k16, .slice o16 m16 t16] 25) := ⟨_, rfl⟩
    obtain ⟨g16, hg16⟩ : ∃ g, g = U16.heap.size := ⟨_, rfl⟩
    rw [← hW16] at yy16 bb16 cc16 Ya Yb Yc Yr7 Yr8 Yr10 Yr12 Yr14 Dr7 Dr8 Dr10 Dr12 Dr14
    rw [← hg16] at yy16
    have BB16 := Lib.hid (HBB.out.trans (bb16.mono (by have := HBB.out.size; have := HBS.out; omega)))
    clear HBB Xa Xb Xc Xr7 Xr8 Xr10 Xr12 Xr14 Cr7 Cr8 Cr10 Cr12 Cr14 r7x0 r7x1 r7x2 ax0 ax1 ax2 bx0 bx1 bx2
    have HBB := BB16
    have Xa := Lib.hid Ya
    have Xb := Lib.hid Yb
    have Xc := Lib.hid Yc
    have Xr7 := Lib.hid Yr7
    have Xr8 := Lib.hid Yr8
    have Xr10 := Lib.hid Yr10
    have Xr12 := Lib.hid Yr12
    have Xr14 := Lib.hid Yr14
    have Cr7 := Lib.hid Dr7
    have Cr8 := Lib.hid Dr8
    have Cr10 := Lib.hid Dr10
    have Cr12 := Lib.hid Dr12
    have Cr14 := Lib.hid Dr14
    have Xr16 := Lib.hid yy16
    have Cr16 := Lib.hid cc16
    clear BB16 cq16 bu16 nn16 yy16 bb16 cc16 Ya Yb Yc Yr7 Yr8 Yr10 Yr12 Yr14 Dr7 Dr8 Dr10 Dr12 Dr14
    go_upto_region 10 with fail
    rw [← hW16, ← hg16]
    clear hW16 hg16
    obtain ⟨r7x0, r7x1, r7x2, _⟩ := at_blockQ Xr7.out
    obtain ⟨ax0, ax1, ax2, _⟩ := at_blockQ Xa.out
    go_wp2_with fail
    refine (UPA.out _ _ _ _ _ _ _ _ _ Cr7.out.rq).mono ?_; rintro e U18 ⟨s18, e18, n18, k18, o18, m18, t18, rfl, cq18, bu18⟩
    have nn18 := below_new U18 (.cells #[.bool s18, .slice e18 n18 k18, .slice o18 m18 t18] 25)
    have yy18 := heap_alloc_new U18 (.cells #[.bool s18, .slice e18 n18 k18, .slice o18 m18 t18] 25)
    have bb18 := bu18.trans (nn18.mono bu18.size)
    have cc18 := (cq18.below nn18).mono (Nat.zero_le _)
    have Ya := carry Xa.out bb18
    have Yb := carry Xb.out bb18
    have Yc := carry Xc.out bb18
    have Yr7 := carry Xr7.out bb18
    have Yr8 := carry Xr8.out bb18
    have Yr10 := carry Xr10.out bb18
    have Yr12 := carry Xr12.out bb18
    have Yr14 := carry Xr14.out bb18
    have Yr16 := carry Xr16.out bb18
    have Dr7 := Cr7.out.below bb18
    have Dr8 := Cr8.out.below bb18
    have Dr10 := Cr10.out.below bb18
    have Dr12 := Cr12.out.below bb18
    have Dr14 := Cr14.out.below bb18
    have Dr16 := Cr16.out.below bb18
    obtain ⟨W18, hW18⟩ : ∃ W, W = U18.alloc (.cells #[.bool s18, .slice e18 n18 k18, .slice o18 m18 t18] 25) := ⟨_, rfl⟩
    obtain ⟨g18, hg18⟩ : ∃ g, g = U18.heap.size := ⟨_, rfl⟩
    rw [← hW18] at yy18 bb18 cc18 Ya Yb Yc Yr7 Yr8 Yr10 Yr12 Yr14 Yr16 Dr7 Dr8 Dr10 Dr12 Dr14 Dr16
    rw [← hg18] at yy18
    have BB18 := Lib.hid (HBB.out.trans (bb18.mono (by have := HBB.out.size; have := HBS.out; omega)))
    clear HBB Xa Xb Xc Xr7 Xr8 Xr10 Xr12 Xr14 Xr16 Cr7 Cr8 Cr10 Cr12 Cr14 Cr16 r7x0 r7x1 r7x2 ax0 ax1 ax2
    have HBB := BB18
    have Xa := Lib.hid Ya
    have Xb := Lib.hid Yb
    have Xc := Lib.hid Yc
    have Xr7 := Lib.hid Yr7
    have Xr8 := Lib.hid Yr8
    have Xr10 := Lib.hid Yr10
    have Xr12 := Lib.hid Yr12
    have Xr14 := Lib.hid Yr14
    have Xr16 := Lib.hid Yr16
    have Cr7 := Lib.hid Dr7
    have Cr8 := Lib.hid Dr8
    have Cr10 := Lib.hid Dr10
    have Cr12 := Lib.hid Dr12
    have Cr14 := Lib.hid Dr14
    have Cr16 := Lib.hid Dr16
    have Xr18 := Lib.hid yy18
    have Cr18 := Lib.hid cc18
    clear BB18 cq18 bu18 nn18 yy18 bb18 cc18 Ya Yb Yc Yr7 Yr8 Yr10 Yr12 Yr14 Yr16 Dr7 Dr8 Dr10 Dr12 Dr14 Dr16
    go_upto_region 11 with fail
    rw [← hW18, ← hg18]
    clear hW18 hg18
    obtain ⟨r16x0, r16x1, r16x2, _⟩ := at_blockQ Xr16.out
    obtain ⟨bx0, bx1, bx2, _⟩ := at_blockQ Xb.out
    go_wp2_with fail
    refine (UPB.out _ _ _ _ _ _ _ _ _ Cr16.out.rq).mono ?_; rintro e U20 ⟨s20, e20, n20, k20, o20, m20, t20, rfl, cq20, bu20⟩
    have nn20 := below_new U20 (.cells #[.bool s20, .slice e20 n20 k20, .slice o20 m20 t20] 25)
    have yy20 := heap_alloc_new U20 (.cells #[.bool s20, .slice e20 n20 k20, .slice o20 m20 t20] 25)
    have bb20 := bu20.trans (nn20.mono bu20.size)
    have cc20 := (cq20.below nn20).mono (Nat.zero_le _)
    have Ya := carry Xa.out bb20
    have Yb := carry Xb.out bb20
    have Yc := carry Xc.out bb20
    have Yr7 := carry Xr7.out bb20
    have Yr8 := carry Xr8.out bb20
    have Yr10 := carry Xr10.out bb20
    have Yr12 := carry Xr12.out bb20
    have Yr14 := carry Xr14.out bb20
    have Yr16 := carry Xr16.out bb20
    have Yr18 := carry Xr18.out bb20
    have Dr7 := Cr7.out.below bb20
    have Dr8 := Cr8.out.below bb20
    have Dr10 := Cr10.out.below bb20
    have Dr12 := Cr12.out.below bb20
    have Dr14 := Cr14.out.below bb20
    have Dr16 := Cr16.out.below bb20
    have Dr18 := Cr18.out.below bb20
    obtain ⟨W20, hW20⟩ : ∃ W, W = U20.alloc (.cells #[.bool s20, .slice e20 n20 k20, .slice o20 m20 t20] 25) := ⟨_, rfl⟩
    obtain ⟨g20, hg20⟩ : ∃ g, g = U20.heap.size := ⟨_, rfl⟩
    rw [← hW20] at yy20 bb20 cc20 Ya Yb Yc Yr7 Yr8 Yr10 Yr12 Yr14 Yr16 Yr18 Dr7 Dr8 Dr10 Dr12 Dr14 Dr16 Dr18
    rw [← hg20] at yy20
    have BB20 := Lib.hid (HBB.out.trans (bb20.mono (by have := HBB.out.size; have := HBS.out; omega)))
    clear HBB Xa Xb Xc Xr7 Xr8 Xr10 Xr12 Xr14 Xr16 Xr18 Cr7 Cr8 Cr10 Cr12 Cr14 Cr16 Cr18 r16x0 r16x1 r16x2 bx0 bx1 bx2
    have HBB := BB20
    have Xa := Lib.hid Ya
    have Xb := Lib.hid Yb
    have Xc := Lib.hid Yc
    have Xr7 := Lib.hid Yr7
    have Xr8 := Lib.hid Yr8
    have Xr10 := Lib.hid Yr10
    have Xr12 := Lib.hid Yr12
    have Xr14 := Lib.hid Yr14
    have Xr16 := Lib.hid Yr16
    have Xr18 := Lib.hid Yr18
    have Cr7 := Lib.hid Dr7
    have Cr8 := Lib.hid Dr8
    have Cr10 := Lib.hid Dr10
    have Cr12 := Lib.hid Dr12
    have Cr14 := Lib.hid Dr14
    have Cr16 := Lib.hid Dr16
    have Cr18 := Lib.hid Dr18
    have Xr20 := Lib.hid yy20
    have Cr20 := Lib.hid cc20
    clear BB20 cq20 bu20 nn20 yy20 bb20 cc20 Ya Yb Yc Yr7 Yr8 Yr10 Yr12 Yr14 Yr16 Yr18 Dr7 Dr8 Dr10 Dr12 Dr14 Dr16 Dr18
    go_upto_region 13 with fail
    rw [← hW20, ← hg20]
    clear hW20 hg20
    have K : Hid (∀ w', Below W20.heap.size W20 w' → w'.cell? ⟨g8, 0, none⟩ = some (.bool s8) ∧ w'.cell? ⟨g8, 1, none⟩ = some (.slice e8 n8 k8) ∧ w'.cell? ⟨g8, 2, none⟩ = some (.slice o8 m8 t8) ∧ w'.cell? ⟨g10, 0, none⟩ = some (.bool s10) ∧ w'.cell? ⟨g10, 1, none⟩ = some (.slice e10 n10 k10) ∧ w'.cell? ⟨g10, 2, none⟩ = some (.slice o10 m10 t10) ∧ w'.cell? ⟨g12, 0, none⟩ = some (.bool s12) ∧ w'.cell? ⟨g12, 1, none⟩ = some (.slice e12 n12 k12) ∧ w'.cell? ⟨g12, 2, none⟩ = some (.slice o12 m12 t12) ∧ w'.cell? ⟨g14, 0, none⟩ = some (.bool s14) ∧ w'.cell? ⟨g14, 1, none⟩ = some (.slice e14 n14 k14) ∧ w'.cell? ⟨g14, 2, none⟩ = some (.slice o14 m14 t14) ∧ w'.cell? ⟨g18, 0, none⟩ = some (.bool s18) ∧ w'.cell? ⟨g18, 1, none⟩ = some (.slice e18 n18 k18) ∧ w'.cell? ⟨g18, 2, none⟩ = some (.slice o18 m18 t18) ∧ w'.cell? ⟨g20, 0, none⟩ = some (.bool s20) ∧ w'.cell? ⟨g20, 1, none⟩ = some (.slice e20 n20 k20) ∧ w'.cell? ⟨g20, 2, none⟩ = some (.slice o20 m20 t20) ∧ Below W20.heap.size W20 w') := fun w' hb => by
      obtain ⟨a80, a81, a82, _⟩ := at_blockQ (carry Xr8.out hb)
      obtain ⟨a100, a101, a102, _⟩ := at_blockQ (carry Xr10.out hb)
      obtain ⟨a120, a121, a122, _⟩ := at_blockQ (carry Xr12.out hb)
      obtain ⟨a140, a141, a142, _⟩ := at_blockQ (carry Xr14.out hb)
      obtain ⟨a180, a181, a182, _⟩ := at_blockQ (carry Xr18.out hb)
      obtain ⟨a200, a201, a202, _⟩ := at_blockQ (carry Xr20.out hb)
      exact ⟨a80, a81, a82, a100, a101, a102, a120, a121, a122, a140, a141, a142, a180, a181, a182, a200, a201, a202, hb⟩
    have KB : Hid (∀ w', Below W20.heap.size W20 w' → Below BB w w') := fun w' hb => HBB.out.trans (hb.mono (by have := HBB.out.size; have := HBS.out; omega))
    have AWK : Hid (∀ w', Below W20.heap.size W20 w' → Calls Tryz.prog 25 #[] w' fun e w2 => e = .returned (.bool true) ∧ Below w'.heap.size w' w2) := fun w' hb => awake8_v w' (EN.out.below (by have := KB.out w' hb; rw [HBS.out] at this; exact this))
    obtain ⟨i80, i81, i82, i100, i101, i102, i120, i121, i122, i140, i141, i142, i180, i181, i182, i200, i201, i202, _⟩ := K.out W20 (Below.refl _ _)
    clear Xa Xb Xc Xr7 Xr8 Xr10 Xr12 Xr14 Xr16 Xr18 Xr20 Cr7 Cr16 HBB EN HL HBA FAB FBC FAC FBA SCA UPA UPB
    go_region_held3 (fun w' => w'.cell? ⟨g8, 0, none⟩ = some (.bool s8) ∧ w'.cell? ⟨g8, 1, none⟩ = some (.slice e8 n8 k8) ∧ w'.cell? ⟨g8, 2, none⟩ = some (.slice o8 m8 t8) ∧ w'.cell? ⟨g10, 0, none⟩ = some (.bool s10) ∧ w'.cell? ⟨g10, 1, none⟩ = some (.slice e10 n10 k10) ∧ w'.cell? ⟨g10, 2, none⟩ = some (.slice o10 m10 t10) ∧ w'.cell? ⟨g12, 0, none⟩ = some (.bool s12) ∧ w'.cell? ⟨g12, 1, none⟩ = some (.slice e12 n12 k12) ∧ w'.cell? ⟨g12, 2, none⟩ = some (.slice o12 m12 t12) ∧ w'.cell? ⟨g14, 0, none⟩ = some (.bool s14) ∧ w'.cell? ⟨g14, 1, none⟩ = some (.slice e14 n14 k14) ∧ w'.cell? ⟨g14, 2, none⟩ = some (.slice o14 m14 t14) ∧ w'.cell? ⟨g18, 0, none⟩ = some (.bool s18) ∧ w'.cell? ⟨g18, 1, none⟩ = some (.slice e18 n18 k18) ∧ w'.cell? ⟨g18, 2, none⟩ = some (.slice o18 m18 t18) ∧ w'.cell? ⟨g20, 0, none⟩ = some (.bool s20) ∧ w'.cell? ⟨g20, 1, none⟩ = some (.slice e20 n20 k20) ∧ w'.cell? ⟨g20, 2, none⟩ = some (.slice o20 m20 t20) ∧ Below W20.heap.size W20 w')
      (first | exact K.out _ (Below.refl _ _).drew | exact K.out _ (Below.refl _ _) | exact K.out _ (keepB b7 (by assumption) (Nat.le_refl _)) | exact K.out _ (keepB b6 (by assumption) (Nat.le_refl _)) | exact K.out _ (keepB b5 (by assumption) (Nat.le_refl _)) | exact K.out _ (keepB b4 (by assumption) (Nat.le_refl _)) | exact K.out _ (keepB b3 (by assumption) (Nat.le_refl _)) | exact K.out _ (keepB b2 (by assumption) (Nat.le_refl _)) | exact K.out _ (keepB b1 (by assumption) (Nat.le_refl _)))
      (first
        | (go_at_call 25; have tk := b6; go_split_ands; refine (AWK.out _ (keepB b6 (by assumption) (Nat.le_refl _))).mono ?_; rintro e V7 ⟨rfl, b7⟩; have BV : Below W20.heap.size W20 V7 := keepB b7 (by assumption) (Nat.le_refl _))
        | (go_at_call 19; have tk := b5; go_split_ands; refine (Same_q (Cr18.out.below (by assumption)) (Cr20.out.below (by assumption)) (EQ3.out P)).mono ?_; rintro e V6 ⟨rfl, b6⟩)
        | (go_at_call 19; have tk := b4; go_split_ands; refine (Same_q (cr3.below b4) cr4 EQ2.out).mono ?_; rintro e V5 ⟨rfl, b5⟩)
        | (go_at_call 12; have tk := b3; go_split_ands; refine (rOne_q _).mono ?_; rintro e V4 ⟨s4, a4, l4, c4, p4, m4, d4, rfl, cr4, b4⟩)
        | (go_at_call 39; have tk := b2; go_split_ands; refine (rMul_q s8 s14 e8 o8 e14 o14 n8 k8 m8 t8 n14 k14 m14 t14 2 (rq false vb va) (rq false va vb) _ (Cr8.out.below (by assumption)).rq (Cr14.out.below (by assumption)).rq (by omega)).mono ?_; rintro e V3 ⟨s3, a3, l3, c3, p3, m3, d3, rfl, cr3, b3⟩)
        | (go_at_call 19; have tk := b1; go_split_ands; refine (Same_q cr1 (Cr12.out.below (by assumption)) EQ1.out).mono ?_; rintro e V2 ⟨rfl, b2⟩)
        | (go_at_call 39; go_split_ands; refine (rMul_q s8 s10 e8 o8 e10 o10 n8 k8 m8 t8 n10 k10 m10 t10 2 (rq false vb va) (rq false vc vb) _ (Cr8.out.below (by assumption)).rq (Cr10.out.below (by assumption)).rq (by omega)).mono ?_; rintro e V1 ⟨s1, a1, l1, c1, p1, m1, d1, rfl, cr1, b1⟩))
    have B9 := KB.out _ BV
    go_wp2_with fail
    go_ret
    rw [HBS.out] at B9
    exact ⟨rfl, B9⟩
end Go.Proofs.YtobiepkhommeaaaGreatDoor
/- QuantityChains holds for every input: Factors compose, and their inverses undo them; no condition.; no condition. -/
namespace Go.Proofs.YtobiepkhommeaaaGreatDoor.lawQtyChains
open Go.ChangeShapes Go.WideShapes Go.ChangeAt Go.RowKit

set_option maxRecDepth 100000 in
set_option maxHeartbeats 1000000 in
theorem contract (H : Type) (enc : TypeId × Value → H) (W : World) (base : Nat) (args : Array Value) (ds gs : List (DataW H)) (before : List MemPlace)
    (hval : ∀ (j : Nat) t v, Tryz.f8.params[j]? = some t → args[j]? = some v → Value.okWide Tryz.prog W .any base t v)
    (hW : DataW.Whole enc Tryz.prog Tryz.f8.params.toList Rows.quantityChainsSpec.vars false W args.toList ds gs before) (hL : laidMetH Tryz.prog Rows.quantityChainsRow.laid W) (hsh : W.ShapedOpen Tryz.prog) :
    Calls Tryz.prog 8 args W fun e W' => ∃ v, e = .returned v ∧ Rows.quantityChainsSpec.post enc Tryz.prog Tryz.f8 false true false false W args v W' := by
  have hW' := hW
  obtain ⟨p, q, hA0, _, _, _, _⟩ := hW
  have hA : DataW.TrodAll enc Tryz.prog W 0 (fun _ => true) true Tryz.f8.params.toList args.toList ds p := hA0
  rw [Tryz.params8] at hA hval
  obtain ⟨v0, vs0, d0, ds0, p0, q0, hargs, rfl, rfl, h0, r0⟩ := trodAll_cons hA
  obtain ⟨rfl, rfl, rfl⟩ := trodAll_nil r0
  obtain rfl : args = #[v0] := by cases args; simp_all
  obtain ⟨ao0, zs0, cap0, rfl, hr0⟩ := ints_open8 (hval 0 40 v0 rfl rfl) h0
  refine (QuantityChains_any ao0 zs0 cap0 W hr0 (env_of (tab_of5 hL) hsh)).mono ?_
  rintro e W' ⟨rfl, hb⟩
  exact ⟨_, rfl, law_post hW' rfl rfl rfl (by rw [Tryz.params8]; exact facts.readable_of8 (by decide)) hb⟩

theorem laid_met (os : Os) : laidMet Tryz.prog Rows.quantityChainsRow.laid ((laidWorld5 os).forCall (fun _ _ => 0) ⟨#[], #[.slice none 0 0], []⟩).memory :=
  laidMet_of_run' 8 (by kernel_rfl) (by kernel_rfl)
theorem reads (os : Os) {H : Type} (enc : TypeId × Value → H) : ∃ places, DataW.whole enc Tryz.prog ((laidWorld5 os).forCall (fun _ _ => 0) ⟨#[], #[.slice none 0 0], []⟩).memory Tryz.f8.params.toList Rows.quantityChainsSpec.vars false #[Value.slice none 0 0].toList 8 = some ([.nil], [], places) :=
  ⟨[], by kernel_rfl⟩

set_option maxRecDepth 100000 in
set_option maxHeartbeats 2000000 in
theorem lifted (os : Os) (started : os.Started) (H : Type) (enc : TypeId × Value → H) (F : Stop.Interp) :
    ReturnsInHanded {} Tryz.checked os 8 .any ((OpenSpec.ofChange Rows.quantityChainsSpec).preRow enc Tryz.prog Tryz.f8 Rows.quantityChainsRow.domain false Rows.quantityChainsRow.laid) (((OpenSpec.ofChange Rows.quantityChainsSpec).at F).post enc Tryz.prog Tryz.f8 false true false false) := by
  obtain ⟨places, hx⟩ := reads os enc
  refine returnsInHanded_of_row (C := Tryz.checked) (s := OpenSpec.ofChange Rows.quantityChainsSpec) fr_own started (by kernel_rfl) Tryz.func8
    (witness_row_at (enc := enc) (C := Tryz.checked) false (laidWorld5 os) #[.slice none 0 0] rfl (by kernel_rfl) (by kernel_rfl) (by kernel_rfl)
      (OpenSpec.preRow_of_cond 8 hx (by kernel_rfl) (fun k hk => by cases hk) (by kernel_rfl) (laid_met os))) ?_
  intro W base args ds gs before hval hW _ _ _ hL hsh _
  exact contract H enc W base args ds gs before hval hW hL hsh

set_option maxHeartbeats 8000000 in
theorem closed : joinedFacts Tryz.prog 8 Tryz.f8 Rows.quantityChainsSpec Rows.quantityChainsRow = true := by
  unfold joinedFacts
  repeat' (with_reducible refine facts.and_mk ?_ ?_)
  all_goals first
    | (with_reducible exact facts.laidOut) | (with_reducible exact facts.rowed) | (with_reducible exact facts.stops) | (with_reducible exact facts.stopKnobs) | (with_reducible exact facts.stopsHeard) | (with_reducible exact facts.mayEnter)
    | ((with_reducible refine facts.plainKeys_of ?_); rfl) | ((with_reducible refine facts.lifted_of ?_); rfl) | ((with_reducible refine facts.make_of ?_); rfl)
    | (as_aux_lemma => kernel_rfl)

set_option maxRecDepth 100000 in
theorem said : Rows.QuantityChainsSaid :=
  OpenClaim.holds_of_cond 8 Tryz.f8 rfl rfl rfl rfl rfl rfl rfl ⟨rfl, rfl, rfl, rfl, rfl⟩ rfl rfl rfl rfl rfl (by kernel_rfl) Tryz.func8 closed
    (of_decide_eq_true (by kernel_rfl)) (by unfold Func.isWrapper; first | (rw [if_pos (by decide +kernel)]; kernel_rfl) | (rw [if_neg (by decide +kernel)]; exact ⟨rfl, rfl⟩))
    (fun os started H enc _ F => by rw [OpenClaim.pre_eq_preRow]; exact lifted os started H enc F)

theorem plain (f : FuncId) (fn : Func) (hf : Tryz.pinned.checked.prog.funcNamed "priceoffice/priceofficelaw08.QuantityChains" = some f) (hfn : Tryz.pinned.checked.prog.funcs[f]? = some fn) :
    Rows.rationalApartCard.stood.looks = Tryz.pinned.checked.prog.looks [] ∧ ∀ (j : Nat) t, fn.params[j]? = some t → Tryz.pinned.checked.prog.wantsStandIn t = false := by
  obtain rfl : f = 8 := Option.some.inj ((show Tryz.prog.funcNamed "priceoffice/priceofficelaw08.QuantityChains" = some 8 by kernel_rfl).symm.trans hf) |>.symm
  obtain rfl : fn = Tryz.f8 := (Option.some.inj (Tryz.func8.symm.trans hfn)).symm
  refine ⟨facts.looks, fun j t ht => ?_⟩
  rw [Tryz.params8] at ht
  exact facts.standIn_of8 (by decide) j t ht

theorem card : Rows.QuantityChainsCardSaid :=
  Claim7.holds_tied_plain_at .later [] _ _ _ _ said (fun _ h => by cases h) (by kernel_rfl) (fun _ h => by cases h) quantityChains_row_tie rfl ⟨rfl, rfl⟩ facts.mainIs rfl plain (by kernel_rfl)
end Go.Proofs.YtobiepkhommeaaaGreatDoor.lawQtyChains
