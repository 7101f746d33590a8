import Derived.Test.YtobiepkhommeaaaDoorQtysA
import Derived.Test.YtobiepkhommeaaaDoorOnes
import Derived.Test.YtobiepkhommeaaaDoorQtysM
import Derived.Test.YtobiepkhommeaaaDoorPars
import Derived.Test.YtobiepkhommeaaaDoorPrts
import Derived.Test.YtobiepkhommeaaaDoorRat11
import Derived.Test.YtobiepkhommeaaaDoorPows2
import Derived.Deep.CutRange
/- Quantities: unitNamed, standardUnit, unitFor; packages, strings.Cut, a unit's amount. -/
namespace Go.Proofs.YtobiepkhommeaaaDoor
open Go.RowKit

theorem cell1 {w : World} {g : Nat} {u : Value} {t : TypeId} (h : w.heap[g]? = some (.cells #[u] t (0, 0))) : w.cell? ⟨g, 0, none⟩ = some u := by simp [World.cell?, h]
/-- the cell of bytealg.MaxLen holds a number -/
def MX (w : World) : Prop := ∃ m : Int, w.cell? ⟨0, 0, none⟩ = some (.int .i64 m)
theorem MX.below {w w' : World} (h : MX w) (b : Below w.heap.size w w') : MX w' := by
  obtain ⟨m, h⟩ := h
  exact ⟨m, cellQ h b⟩
/-- what the quantities' texts need of the world: the table of powers of ten, strconv.ErrSyntax, bytealg.MaxLen -/
structure Env (w : World) : Prop where
  tab : Tab w
  err : ErrV w
  mx : MX w
theorem Env.below {w w' : World} (h : Env w) (b : Below w.heap.size w w') : Env w' := ⟨h.tab.below b, h.err.below b, h.mx.below b⟩
theorem drewN_b (w : World) (n : Nat) : Below w.heap.size w (w.drewN n) := drewN_below (Below.refl _ _) n
theorem cutQ_v (s p : ByteArray) (l q : List UInt8) (w : World) (hs : s.size ≤ 1000) (hm : MX w) (hl : l = s.data.toList) (hq : q = p.data.toList) :
    Calls Tryd.prog 12 #[.string s, .string p] w fun e w' => e = .returned (.tuple #[.string (txtB (Lib.cut l q).1), .string (txtB (Lib.cut l q).2.1), .bool (Lib.cut l q).2.2]) ∧ Below w.heap.size w w' := by
  obtain ⟨m, hm⟩ := hm
  subst hl hq
  refine (Tryd.strings_Cut s p m w (by omega) hm).mono ?_
  rintro e w' ⟨rfl, n, rfl⟩
  exact ⟨rfl, drewN_b _ _⟩
theorem FromInt_nat (z : Nat) (hz : z ≤ 1099511627776) (i : Int) (hi : i = (z : Int)) (w : World) : Calls Tryd.prog 23 #[.int .i64 i] w (MakesQ (rq false z 1) 2 w) := by
  subst hi
  have h := FromInt_q (z : Int) (by omega) (by omega) w
  rwa [decide_eq_false (show ¬ (z : Int) < 0 by omega), Int.natAbs_natCast] at h

set_option maxHeartbeats 4000000 in
set_option maxRecDepth 100000 in
theorem unitNamed_v (s : ByteArray) (w : World) :
    Calls Tryd.prog 14 #[.string s] w fun e w' => e = .returned (uv (namedU s.data.toList)) ∧ Below w.heap.size w w' := by
  have B0 := below_new w (.cells #[.string s] 9)
  have B1 := B0.trans ((below_new (w.alloc (.cells #[.string s] 9)) (.cells #[.string ⟨#[]⟩, .int .i64 0, .int .i64 0, .bool false] 40)).mono B0.size)
  have x1 := heap_alloc_new (w.alloc (.cells #[.string s] 9)) (.cells #[.string ⟨#[]⟩, .int .i64 0, .int .i64 0, .bool false] 40)
  have y0 := carry (heap_alloc_new w (.cells #[.string s] 9)) (below_new (w.alloc (.cells #[.string s] 9)) (.cells #[.string ⟨#[]⟩, .int .i64 0, .int .i64 0, .bool false] 40))
  have hs1 : (w.alloc (.cells #[.string s] 9)).heap.size = w.heap.size + 1 := World.size_alloc _ _
  obtain ⟨W1, hW1⟩ : ∃ W, W = (w.alloc (.cells #[.string s] 9)).alloc (.cells #[.string ⟨#[]⟩, .int .i64 0, .int .i64 0, .bool false] 40) := ⟨_, rfl⟩
  rw [hs1] at x1
  rw [← hW1] at B1 x1 y0
  have FC := Lib.hid (firstN_v s w.heap.size W1 (cell1 y0))
  obtain ⟨u, hu⟩ : ∃ u, u = namedU s.data.toList := ⟨_, rfl⟩
  have FD : Hid (Calls Tryd.prog 19 #[.func (.func 20) #[] #[.pointer (some ⟨w.heap.size, 0, none⟩)]] W1 fun e w' => e = .returned (uv u) ∧ Below W1.heap.size W1 w') := by rw [hu]; exact FC.out
  rw [← hu]
  obtain ⟨N, hN⟩ : ∃ N, N = txtB u.name := ⟨_, rfl⟩
  obtain ⟨dm, hdm⟩ : ∃ x, x = u.dim := ⟨_, rfl⟩
  obtain ⟨z, hz⟩ : ∃ x, x = u.size := ⟨_, rfl⟩
  obtain ⟨fl, hfl⟩ : ∃ x, x = u.flag := ⟨_, rfl⟩
  have huv : uv u = .agg #[.string N, .int .i64 dm, .int .i64 z, .bool fl] := by rw [hN, hdm, hz, hfl]; rfl
  unfold Hid at FD
  rw [huv] at FD ⊢
  have FD := Lib.hid FD
  have HB1 := Lib.hid B1
  have X1 := Lib.hid x1
  clear FC hu hN hdm hz hfl huv B0 B1 y0 x1 hs1
  go_enter Tryd.func14, Tryd.ntmps14
  go_wp2_with fail
  rw [← hW1]
  clear hW1
  refine (FD.out).mono ?_; rintro e W2 ⟨rfl, b2⟩
  have x2 := carry X1.out b2
  obtain ⟨u0, u1, u2, u3, q0, q1, q2, q3⟩ := at_block4 x2
  have HB2 := Lib.hid (HB1.out.trans (b2.mono HB1.out.size))
  clear b2 x2
  go_wp2_with fail
  refine bodyPost_ret (v := .agg #[.string N, .int .i64 dm, .int .i64 z, .bool fl]) (by simp [results, Tryd.results14, go_sem, u0, u1, u2, u3]) rfl ?_
  exact ⟨rfl, below4 HB2.out (by omega) _ _ _ _⟩

set_option maxHeartbeats 4000000 in
set_option maxRecDepth 100000 in
theorem packages_v (s : ByteArray) (w : World) (hs : s.size ≤ 9223372036854775807) :
    Calls Tryd.prog 13 #[.string s] w fun e w' => e = .returned (.int .i64 ((pk s.data.toList : Nat) : Int)) ∧ Below w.heap.size w w' := by
  have NP := Lib.hid (Parse_any s w hs)
  obtain ⟨R, hR⟩ : ∃ R, R = txtRes s.data.toList := ⟨_, rfl⟩
  obtain ⟨y, hy⟩ : ∃ y, y = txtWhy s.data.toList := ⟨_, rfl⟩
  obtain ⟨K, hK⟩ : ∃ K, K = pk s.data.toList := ⟨_, rfl⟩
  unfold Hid at NP
  rw [← hR, ← hy] at NP
  have NP := Lib.hid NP
  have KB : (R < 2 ∨ 100 < R) → K = 0 := fun h => by rw [hK]; exact pk_bad (by rw [← hR]; exact h)
  have KG : ¬ (R < 2 ∨ 100 < R) → K = R := fun h => by rw [hK, pk_ok (by rw [← hR]; exact h), hR]
  rw [← hK]
  clear hR hy hK hs
  obtain ⟨v, hv⟩ : ∃ v : Nat, v = fitv R := ⟨_, rfl⟩
  obtain ⟨b, hb⟩ : ∃ b, b = fits R := ⟨_, rfl⟩
  have UI : Hid (∀ w' ao c, Rd w' ao c (dig R) → Calls Tryd.prog 18 #[.slice ao (dig R).length c] w' fun e w'' => e = .returned (.tuple #[.int .u64 (v : Int), .bool b]) ∧ w' = w'') := fun w' ao c h => by
    have := Uint_any ao c (dig R) w' h
    rwa [val_dig, ← hv, ← hb] at this
  have hvs : v < 2 → K = 0 := fun h => by
    by_cases hf : R < 18446744073709551616
    · have := fitv_yes hf
      exact KB (by omega)
    · exact KB (by omega)
  have hvb : 100 < v → K = 0 := fun h => by
    by_cases hf : R < 18446744073709551616
    · have := fitv_yes hf
      exact KB (by omega)
    · exact KB (by omega)
  have hvg : 2 ≤ v → v ≤ 100 → K = v := fun h h' => by
    by_cases hf : R < 18446744073709551616
    · have := fitv_yes hf
      have e : R = v := by omega
      rw [← e]
      exact KG (by omega)
    · have := fitv_no hf
      omega
  clear KB KG hv hb
  obtain ⟨n, hn⟩ : ∃ n, n = (dig R).length := ⟨_, rfl⟩
  by_cases h1 : v < 2
  · have HK := Lib.hid (hvs h1)
    have h1i : (v : Int) < 2 := by omega
    clear hvs hvb hvg hn
    go_enter Tryd.func13, Tryd.ntmps13
    go_wp2_with fail
    refine NP.out.mono ?_; rintro e w2 ⟨a2, c2, rfl, f2, b2⟩
    have HB := Lib.hid b2
    have U2 := Lib.hid (UI.out _ _ _ f2.rd)
    clear f2 b2
    go_wp2_with fail
    refine U2.out.mono ?_; rintro e w3 ⟨rfl, rfl⟩
    go_wp2_with fail
    go_ret
    exact ⟨by rw [HK.out] <;> rfl, HB.out⟩
  · by_cases h2 : 100 < v
    · have HK := Lib.hid (hvb h2)
      have h1i : ¬ (v : Int) < 2 := by omega
      have h2i : (100 : Int) < (v : Int) := by omega
      clear hvs hvb hvg hn
      go_enter Tryd.func13, Tryd.ntmps13
      go_wp2_with fail
      refine NP.out.mono ?_; rintro e w2 ⟨a2, c2, rfl, f2, b2⟩
      have HB := Lib.hid b2
      have U2 := Lib.hid (UI.out _ _ _ f2.rd)
      clear f2 b2
      go_wp2_with fail
      refine U2.out.mono ?_; rintro e w3 ⟨rfl, rfl⟩
      go_wp2_with fail
      go_ret
      exact ⟨by rw [HK.out] <;> rfl, HB.out⟩
    · have HK := Lib.hid (hvg (by omega) (by omega))
      have h1i : ¬ (v : Int) < 2 := by omega
      have h2i : ¬ (100 : Int) < (v : Int) := by omega
      have hwr : IntKind.i64.wrap (v : Int) = (v : Int) := IntWalk.i64_in _ (by omega)
      clear hvs hvb hvg hn
      go_enter Tryd.func13, Tryd.ntmps13
      go_wp2_with fail
      refine NP.out.mono ?_; rintro e w2 ⟨a2, c2, rfl, f2, b2⟩
      have HB := Lib.hid b2
      have U2 := Lib.hid (UI.out _ _ _ f2.rd)
      clear f2 b2
      go_wp2_with fail
      refine U2.out.mono ?_; rintro e w3 ⟨rfl, rfl⟩
      go_wp2_with fail
      go_ret
      exact ⟨by rw [HK.out] <;> rfl, HB.out⟩
end Go.Proofs.YtobiepkhommeaaaDoor
/- Quantities: the base units that a decimal number of a unit stands for. -/
namespace Go.Proofs.YtobiepkhommeaaaDoor
open Go.RowKit

/-- the box of a number, behind a region -/
def NumCut (w : World) (q : Rat) (k : Nat) (v : Value) (wx : World) : Prop := ∃ g s ao n ca bo m cb, v = .pointer (some ⟨g, 0, none⟩) ∧ wx.heap[g]? = some (.cells #[.bool s, .slice ao n ca, .slice bo m cb] 52 (0, 0)) ∧ CQ 0 wx s ao n ca bo m cb q k ∧ Below w.heap.size w wx
theorem num_cut {w w1 : World} {q : Rat} {k : Nat} {p v : Value} (hB : Below w.heap.size w w1) (hH : HoldsT 52 w1 p v) (hq : IsQ q k v w1) : NumCut w q k p w1 := by
  obtain ⟨g, a, b, c, rfl, hv, hx⟩ := hH
  obtain ⟨s, ao, n, ca, bo, m, cb, hv2, hc⟩ := hq
  rw [hv] at hv2
  simp at hv2
  obtain ⟨rfl, rfl, rfl⟩ := hv2
  exact ⟨g, s, ao, n, ca, bo, m, cb, rfl, hx, hc, hB⟩
set_option maxHeartbeats 8000000 in
set_option maxRecDepth 100000 in
theorem amount_v (N : ByteArray) (dm : Int) (z : Nat) (fl : Bool) (s : ByteArray) (hz : z ≤ 1000000) (hs : s.size ≤ 1000) (w : World) (hev : ErrV w) :
    Calls Tryd.prog 15 #[.agg #[.string N, .int .i64 dm, .int .i64 (z : Int), .bool fl], .string s] w fun e w' => e = .returned (.int .i64 ((amt s.data.toList z : Nat) : Int)) ∧ Below w.heap.size w w' := by
  have B0 := below_new w (.cells #[.string N, .int .i64 dm, .int .i64 (z : Int), .bool fl] 40)
  have x0 := heap_alloc_new w (.cells #[.string N, .int .i64 dm, .int .i64 (z : Int), .bool fl] 40)
  obtain ⟨W1, hW1⟩ : ∃ W, W = w.alloc (.cells #[.string N, .int .i64 dm, .int .i64 (z : Int), .bool fl] 40) := ⟨_, rfl⟩
  rw [← hW1] at B0 x0
  have HP := qParse_v s W1 hs (hev.below B0)
  obtain ⟨Q, hQ⟩ : ∃ Q, Q = pqv s.data.toList := ⟨_, rfl⟩
  obtain ⟨c, hc⟩ : ∃ c : Prop, c = ¬ pOk (pneg s.data.toList) (pbody s.data.toList) := ⟨_, rfl⟩
  rw [← hQ, ← hc] at HP
  have HP := Lib.hid HP
  obtain ⟨A, hA⟩ : ∃ A, A = amt s.data.toList z := ⟨_, rfl⟩
  have AZ : Hid (c → A = 0) := fun h => by rw [hA]; exact amt_zero z _ (pqv_bad (by rw [hc] at h; exact h))
  have AN : Hid (A = amtN (Q * rq false z 1)) := by unfold Hid; rw [hA, hQ]; rfl
  rw [← hA]
  have hzb : z ≤ 1099511627776 := by omega
  clear hA hc hQ hev hs hz
  go_enter Tryd.func15, Tryd.ntmps15
  go_wp2_with fail
  rw [← hW1]
  clear hW1
  refine HP.out.mono ?_; rintro e W2 ⟨s2, a2, n2, c2, o2, m2, d2, er, rfl, cq2, hcc, b2⟩
  have n3 := below_new W2 (.cells #[.bool s2, .slice a2 n2 c2, .slice o2 m2 d2] 52)
  have y3 := heap_alloc_new W2 (.cells #[.bool s2, .slice a2 n2 c2, .slice o2 m2 d2] 52)
  have x3 := carry (carry x0 b2) n3
  have B3 := (B0.trans (b2.mono B0.size)).trans (n3.mono (Nat.le_trans B0.size b2.size))
  have cq3 := (cq2.below n3).mono (Nat.zero_le _)
  obtain ⟨W3, hW3⟩ : ∃ W, W = W2.alloc (.cells #[.bool s2, .slice a2 n2 c2, .slice o2 m2 d2] 52) := ⟨_, rfl⟩
  rw [← hW3] at y3 x3 B3 cq3
  have X0 := Lib.hid x3
  have Y3 := Lib.hid y3
  have HB3 := Lib.hid B3
  have CX := Lib.hid cq3
  clear x0 B0 cq2 n3 y3 x3 B3 cq3 b2
  rcases hcc with ⟨hc1, rfl⟩ | ⟨hc1, rfl⟩
  · have HA := Lib.hid (AZ.out hc1)
    go_wp2_with fail
    rw [← hW3]
    go_ret
    exact ⟨by rw [HA.out] <;> rfl, HB3.out⟩
  · clear hc1 AZ HP
    go_upto_region 4 with fail
    rw [← hW3]
    obtain ⟨g3, hg3⟩ : ∃ g, g = W2.heap.size := ⟨_, rfl⟩
    unfold Hid at Y3
    rw [← hg3] at Y3 ⊢
    have Y3 := Lib.hid Y3
    clear hW3 hg3
    go_cut [7] from 10 to 42 (fun v7 wx => NumCut W3 (Q * rq false z 1) 1025 v7 wx)
    case first =>
      refine wp_region_any (by kernel_rfl) ?_
      refine region_ssa [17, 18, 19, 20, 21, 7] (Below W3.heap.size W3) (ExtT 52 W3.heap.size) (OneR 52 W3.heap.size [.val (.agg #[.bool s2, .slice a2 n2 c2, .slice o2 m2 d2]), .val (.pointer (some ⟨w.heap.size, 2, none⟩)), .val (.int .i64 (z : Int)), .num (rq false z 1) (2), .num (Q * rq false z 1) (1025), .box, .any]) (OneX 52 6 7 21) (fun f => rfl) (by kernel_rfl) (by kernel_rfl) ?_ ?_ ?_ ?_ (AllFrom.below (n := 7) ?_) ?_
      · exact (Below.refl _ _).drew
      · intro f h; cases h
      · intro i v w1 w2 _ h hE; exact OneR.ext (by decide) i v w1 w2 h hE
      · intro w1 w2 hB hE; exact hB.trans hE.1
      · refine AllFrom.step (m := 6) (j := 1) rfl ?_ ?_
        · intro D f w1 hD hB hR hp hcl hX
          have x9 := carry X0.out hB
          have y9 := carry Y3.out hB
          obtain ⟨k0, k1, k2, k3, _⟩ := at_block4 x9
          obtain ⟨l0, l1, l2, _⟩ := at_block y9
          refine wpOp_step rfl (fun K hK => ?_)
          simp only [putAll, Act.put, List.setIfInBounds_toArray, List.set_cons_succ, List.set_cons_zero]
          go_simp
          exact hK _ _ ⟨(.agg #[.bool s2, .slice a2 n2 c2, .slice o2 m2 d2]), (by show _ = Act.put _ (some 17) _; simp only [putAll, Act.put, List.setIfInBounds_toArray, List.set_cons_succ, List.set_cons_zero, *]), rfl, ExtT.refl _ _ _, fun h => absurd h (no_of (D := D) (hcl 6) (by kernel_rfl) hD)⟩
        refine AllFrom.step (m := 5) (j := 2) rfl ?_ ?_
        · intro D f w1 hD hB hR hp hcl hX
          refine wpOp_step rfl (fun K hK => ?_)
          simp only [putAll, Act.put, List.setIfInBounds_toArray, List.set_cons_succ, List.set_cons_zero]
          go_simp
          exact hK _ _ ⟨(.pointer (some ⟨w.heap.size, 2, none⟩)), (by show _ = Act.put _ (some 18) _; simp only [putAll, Act.put, List.setIfInBounds_toArray, List.set_cons_succ, List.set_cons_zero, *]), rfl, ExtT.refl _ _ _, fun h => absurd h (no_of (D := D) (hcl 6) (by kernel_rfl) hD)⟩
        refine AllFrom.step (m := 4) (j := 3) rfl ?_ ?_
        · intro D f w1 hD hB hR hp hcl hX
          have e1 : f 18 = (.pointer (some ⟨w.heap.size, 2, none⟩)) := (hp_at hp 1 (by kernel_rfl)).2
          have x9 := carry X0.out hB
          have y9 := carry Y3.out hB
          obtain ⟨k0, k1, k2, k3, _⟩ := at_block4 x9
          obtain ⟨l0, l1, l2, _⟩ := at_block y9
          refine wpOp_step rfl (fun K hK => ?_)
          simp only [putAll, Act.put, List.setIfInBounds_toArray, List.set_cons_succ, List.set_cons_zero]
          go_simp
          exact hK _ _ ⟨(.int .i64 (z : Int)), (by show _ = Act.put _ (some 19) _; simp only [putAll, Act.put, List.setIfInBounds_toArray, List.set_cons_succ, List.set_cons_zero, *]), rfl, ExtT.refl _ _ _, fun h => absurd h (no_of (D := D) (hcl 6) (by kernel_rfl) hD)⟩
        refine AllFrom.step (m := 3) (j := 4) rfl ?_ ?_
        · intro D f w1 hD hB hR hp hcl hX
          have e2 : f 19 = (.int .i64 (z : Int)) := (hp_at hp 2 (by kernel_rfl)).2
          refine wpOp_step rfl (fun K hK => ?_)
          simp only [putAll, Act.put, List.setIfInBounds_toArray, List.set_cons_succ, List.set_cons_zero]
          go_simp
          refine (FromInt_nat z hzb _ rfl _).mono ?_
          rintro e w2 hm
          obtain ⟨v, rfl, hq, hb⟩ := hm.isq
          go_simp
          exact hK _ _ ⟨v, (by show _ = Act.put _ (some 20) _; simp only [putAll, Act.put, List.setIfInBounds_toArray, List.set_cons_succ, List.set_cons_zero, *]), hq, ExtT.of_below hb hB.size, fun h => absurd h (no_of (D := D) (hcl 6) (by kernel_rfl) hD)⟩
        refine AllFrom.step (m := 2) (j := 5) rfl ?_ ?_
        · intro D f w1 hD hB hR hp hcl hX
          have e0 : f 17 = (.agg #[.bool s2, .slice a2 n2 c2, .slice o2 m2 d2]) := (hp_at hp 0 (by kernel_rfl)).2
          obtain ⟨s3, a3, n3, c3, o3, m3, d3, e3, q3⟩ := (hp_at hp 3 (by kernel_rfl)).2
          replace e3 : f 20 = _ := e3
          have cq1 := CX.out.below hB
          refine wpOp_step rfl (fun K hK => ?_)
          simp only [putAll, Act.put, List.setIfInBounds_toArray, List.set_cons_succ, List.set_cons_zero]
          go_simp
          refine (Mul_q s2 s3 a2 o2 a3 o3 n2 c2 m2 d2 n3 c3 m3 d3 512 Q (rq false z 1) _ cq1.rq (RQ.up q3.rq (by omega) (by omega)) (by omega)).mono ?_
          rintro e w2 hm
          obtain ⟨v, rfl, hq, hb⟩ := hm.isq
          go_simp
          exact hK _ _ ⟨v, (by show _ = Act.put _ (some 21) _; simp only [putAll, Act.put, List.setIfInBounds_toArray, List.set_cons_succ, List.set_cons_zero, *]), hq, ExtT.of_below hb hB.size, fun h => absurd h (no_of (D := D) (hcl 6) (by kernel_rfl) hD)⟩
        refine AllFrom.step (m := 1) (j := 6) rfl ?_ ?_
        · intro D f w1 hD hB hR hp hcl hX
          refine wpOp_step rfl (fun K hK => ?_)
          simp only [putAll, Act.put, List.setIfInBounds_toArray, List.set_cons_succ, List.set_cons_zero]
          go_simp
          exact hK _ _ ⟨.pointer (some ⟨w1.heap.size, 0, none⟩), (by show _ = Act.put _ (some 7) _; simp only [putAll, Act.put, List.setIfInBounds_toArray, List.set_cons_succ, List.set_cons_zero, *]), ⟨w1.heap.size, rfl, hB.size, newBT _ _ _ _ _⟩, ExtT.of_below (below_new _ _) hB.size, fun h => absurd h (no_of (D := D) (hcl 6) (by kernel_rfl) hD)⟩
        refine AllFrom.step (m := 0) (j := 7) rfl ?_ ?_
        · intro D f w1 hD hB hR hp hcl hX
          obtain ⟨g, eg, hg, hb⟩ := (hp_at hp 5 (by kernel_rfl)).2
          obtain ⟨s5, a5, n5, c5, o5, m5, d5, ev, hcq⟩ := (hp_at hp 4 (by kernel_rfl)).2
          replace ev : f 21 = _ := ev
          replace eg : f 7 = _ := eg
          obtain ⟨u0, u1, u2, q0, q1, q2, z0, z1, z2⟩ := hb.facts
          refine wpOp_step rfl (fun K hK => ?_)
          simp only [putAll, Act.put, List.setIfInBounds_toArray, List.set_cons_succ, List.set_cons_zero]
          go_simp
          exact hK _ _ ⟨undef, (by show _ = Act.put _ (none) _; simp only [putAll, Act.put, List.setIfInBounds_toArray, List.set_cons_succ, List.set_cons_zero, *]), trivial, ExtT.set3 hb hg _ _ _, fun _ => by show HoldsT _ _ (f 7) (f 21); rw [eg, ev]; exact HoldsT.new hb _ _ _⟩
        exact AllFrom.nil
      · intro D f w1 hall hB hR hX
        simp only [putAll, Act.put, List.setIfInBounds_toArray, List.set_cons_succ, List.set_cons_zero]
        go_wp2_with fail
        go_meet
        exact num_cut hB (hX (hall 6 (by decide))) (hR 4 (by decide))
    case rest =>
      obtain ⟨g5, s5, a5, n5, c5, o5, m5, d5, rfl, x5, cq5, b5⟩ := hcut
      obtain ⟨y, hy⟩ : ∃ y, y = Q * rq false z 1 := ⟨_, rfl⟩
      unfold Hid at AN
      rw [← hy] at cq5 AN
      obtain ⟨hs5, hn5, hm5, fn5, fd5, _, _⟩ := cq5
      obtain ⟨v, hv⟩ : ∃ v : Nat, v = fitv (rn y) := ⟨_, rfl⟩
      obtain ⟨b, hb⟩ : ∃ b, b = fits (rn y) := ⟨_, rfl⟩
      have UI : Hid (Calls Tryd.prog 18 #[.slice a5 n5 c5] wc fun e w'' => e = .returned (.tuple #[.int .u64 (v : Int), .bool b]) ∧ wc = w'') := by
        have := Uint_any a5 c5 (dig (rn y)) wc fn5.rd
        unfold Hid
        rw [hn5]
        rwa [val_dig, ← hv, ← hb] at this
      have hvb : v < 18446744073709551616 := by
        by_cases hf : rn y < 18446744073709551616
        · have := fitv_yes hf; omega
        · have := fitv_no hf; omega
      have hm0 : y.den = 1 → m5 = 0 := fun h => by rw [hm5, h]; rfl
      have hm1 : y.den ≠ 1 → 0 < m5 := fun h => by
        rw [hm5, dd_of h]
        refine List.length_pos_iff.2 (fun e => ?_)
        have h2 : val (dig y.den) = y.den := val_dig _
        rw [e] at h2
        have h3 := den_pos y
        have h4 : val [] = 0 := rfl
        omega
      have A0 : (s5 = true ∨ y.den ≠ 1 ∨ 1099511627776 < rn y) → A = 0 := fun h => by
        rw [AN]
        refine if_neg (fun k => ?_)
        obtain ⟨k1, k2, k3⟩ := k
        rcases h with h | h | h
        · rw [hs5, k1] at h; cases h
        · exact h k2
        · omega
      have A1 : s5 = false → y.den = 1 → rn y ≤ 1099511627776 → A = rn y := fun h1 h2 h3 => by
        rw [AN]
        exact if_pos ⟨by rw [← hs5]; exact h1, h2, h3⟩
      obtain ⟨k0, k1, k2, _⟩ := at_block x5
      have HB5 := Lib.hid (HB3.out.trans (b5.mono HB3.out.size))
      clear x5 fn5 fd5 b5 hs5 hn5 hm5
      cases s5 with
      | true =>
        have HA := Lib.hid (A0 (.inl rfl))
        clear A0 A1 hm0 hm1 AN hv hb
        go_wp2_with fail
        refine UI.out.mono ?_; rintro e w6 ⟨rfl, rfl⟩
        go_wp2_with fail
        go_ret
        exact ⟨by rw [HA.out] <;> rfl, HB5.out⟩
      | false =>
        by_cases hd1 : y.den = 1
        · obtain rfl : m5 = 0 := hm0 hd1
          by_cases hbig : 1099511627776 < v
          · have HA : Hid (A = 0) := A0 (.inr (.inr (by
              by_cases hf : rn y < 18446744073709551616
              · have := fitv_yes hf; omega
              · have := fitv_no hf; omega)))
            have hbi : (1099511627776 : Int) < (v : Int) := by omega
            clear A0 A1 hm0 hm1 AN hv hb hd1
            go_wp2_with fail
            refine UI.out.mono ?_; rintro e w6 ⟨rfl, rfl⟩
            go_wp2_with fail
            go_ret
            exact ⟨by rw [HA.out] <;> rfl, HB5.out⟩
          · have HA : Hid (A = v) := by
              unfold Hid
              by_cases hf : rn y < 18446744073709551616
              · have := fitv_yes hf
                have e : rn y = v := by omega
                rw [← e]
                exact A1 rfl hd1 (by omega)
              · have := fitv_no hf
                have e : v = 0 := by omega
                rw [e]
                exact A0 (.inr (.inr (by omega)))
            have hbi : ¬ (1099511627776 : Int) < (v : Int) := by omega
            have hwr : IntKind.i64.wrap (v : Int) = (v : Int) := IntWalk.i64_in _ (by omega)
            clear A0 A1 hm0 hm1 AN hv hb hd1
            go_wp2_with fail
            refine UI.out.mono ?_; rintro e w6 ⟨rfl, rfl⟩
            go_wp2_with fail
            go_ret
            exact ⟨by rw [HA.out] <;> rfl, HB5.out⟩
        · have hmp : 0 < m5 := hm1 hd1
          have hmpi : (0 : Int) < (m5 : Int) := by omega
          have HA := Lib.hid (A0 (.inr (.inl hd1)))
          clear A0 A1 hm0 hm1 AN hv hb hd1
          go_wp2_with fail
          refine UI.out.mono ?_; rintro e w6 ⟨rfl, rfl⟩
          go_wp2_with fail
          go_ret
          exact ⟨by rw [HA.out] <;> rfl, HB5.out⟩
end Go.Proofs.YtobiepkhommeaaaDoor
/- Quantities: Parse of the code. -/
namespace Go.Proofs.YtobiepkhommeaaaDoor
open Go.RowKit

theorem at_blockQ {w : World} {g : Nat} {u v x : Value} {t : TypeId} (h : w.heap[g]? = some (.cells #[u, v, x] t (0, 0))) :
    w.cell? ⟨g, 0, none⟩ = some u ∧ w.cell? ⟨g, 1, none⟩ = some v ∧ w.cell? ⟨g, 2, none⟩ = some x ∧ w.frozen? ⟨g, 0, none⟩ = false ∧ w.frozen? ⟨g, 1, none⟩ = false ∧ w.frozen? ⟨g, 2, none⟩ = false := by
  refine ⟨?_, ?_, ?_, ?_, ?_, ?_⟩
  · simp [World.cell?, h]
  · simp [World.cell?, h]
  · simp [World.cell?, h]
  · simp [World.frozen?, h]
  · simp [World.frozen?, h]
  · simp [World.frozen?, h]
/-- the box of a quantity, behind a region -/
def QtyCut (w : World) (d c a : Int) (v : Value) (wx : World) : Prop := ∃ g, v = .pointer (some ⟨g, 0, none⟩) ∧ wx.heap[g]? = some (.cells #[.int .i64 d, .int .i64 c, .int .i64 a] 23 (0, 0)) ∧ Below w.heap.size w wx
theorem qty_cut {w w1 : World} {d c a : Int} {p v : Value} (hB : Below w.heap.size w w1) (hH : HoldsT 23 w1 p v) (hv : v = .agg #[.int .i64 d, .int .i64 c, .int .i64 a]) : QtyCut w d c a p w1 := by
  obtain ⟨g, x, y, z, rfl, hv2, hx⟩ := hH
  rw [hv] at hv2
  simp at hv2
  obtain ⟨rfl, rfl, rfl⟩ := hv2
  exact ⟨g, rfl, hx, hB⟩
theorem cut_len (l q : List UInt8) : (Lib.cut l q).1.length ≤ l.length ∧ (Lib.cut l q).2.1.length ≤ l.length := by
  unfold Lib.cut
  split
  · constructor
    · simp; omega
    · simp
  · simp
theorem ret_q {d c a e d' c' a' e' : Int} (h1 : d = d') (h2 : c = c') (h3 : a = a') (h4 : e = e') : Ending.returned (.tuple #[.agg #[.int .i64 d, .int .i64 c, .int .i64 a], .int .i64 e]) = .returned (.tuple #[.agg #[.int .i64 d', .int .i64 c', .int .i64 a'], .int .i64 e']) := by rw [h1, h2, h3, h4]

set_option maxHeartbeats 20000000 in
set_option maxRecDepth 100000 in
theorem QParse_v (s : ByteArray) (w : World) (hs : s.size ≤ 1000) (he : Env w) :
    Calls Tryd.prog 11 #[.string s] w fun e w' => e = .returned (.tuple #[.agg #[.int .i64 (rD s.data.toList), .int .i64 (rC s.data.toList), .int .i64 (rA s.data.toList)], .int .i64 (rE s.data.toList)]) ∧ Below w.heap.size w w' := by
  obtain ⟨l, hl⟩ : ∃ l, l = s.data.toList := ⟨_, rfl⟩
  have hll : l.length ≤ 1000 := by rw [hl]; have := size_list s; omega
  obtain ⟨h, hh⟩ : ∃ x, x = (Lib.cut l sepX).1 := ⟨_, rfl⟩
  obtain ⟨r, hr⟩ : ∃ x, x = (Lib.cut l sepX).2.1 := ⟨_, rfl⟩
  obtain ⟨b, hb⟩ : ∃ x, x = (Lib.cut l sepX).2.2 := ⟨_, rfl⟩
  have hhl : h.length ≤ 1000 := by rw [hh]; have := (cut_len l sepX).1; omega
  have hrl : r.length ≤ 1000 := by rw [hr]; have := (cut_len l sepX).2; omega
  obtain ⟨m, hm⟩ : ∃ x, x = pL l := ⟨_, rfl⟩
  have hml : m.length ≤ 1000 := by
    rw [hm]; unfold pL
    split
    · rw [← hr]; exact hrl
    · exact hll
  obtain ⟨c, hc⟩ : ∃ x, x = pC l := ⟨_, rfl⟩
  have hcb : c ≤ 100 := by rw [hc]; exact pC_le l
  obtain ⟨a, ha⟩ : ∃ x, x = pA l := ⟨_, rfl⟩
  have hab : a ≤ 1099511627776 := by rw [ha]; unfold pA amt; exact amtN_le _
  obtain ⟨S1, hS1⟩ : ∃ S, S = txtB (Lib.cut m [32]).1 := ⟨_, rfl⟩
  obtain ⟨S2, hS2⟩ : ∃ S, S = txtB (Lib.cut m [32]).2.1 := ⟨_, rfl⟩
  obtain ⟨b2, hb2⟩ : ∃ x, x = (Lib.cut m [32]).2.2 := ⟨_, rfl⟩
  have hS1s : S1.size ≤ 1000 := by rw [hS1, txtB_size]; have := (cut_len m [32]).1; omega
  obtain ⟨u, hu⟩ : ∃ x, x = pU l := ⟨_, rfl⟩
  have hun : u = namedU S2.data.toList := by rw [hu, hS2, txtB_list, hm]; rfl
  obtain ⟨z, hz⟩ : ∃ z : Nat, z = u.size.toNat := ⟨_, rfl⟩
  have hum : (u.size = (z : Int) ∧ z ≤ 1000000) ∧ (0 ≤ u.dim ∧ u.dim ≤ 4) := by
    rcases pU_mem l with k | k
    · rw [hz, hu, k]; decide
    · have := un_size k
      rw [← hu] at this
      omega
  have ham : a = amt S1.data.toList z := by rw [ha, hS1, txtB_list, hz, hu, hm]; rfl
  obtain ⟨N, hN⟩ : ∃ N, N = txtB u.name := ⟨_, rfl⟩
  obtain ⟨dm, hdm⟩ : ∃ x, x = u.dim := ⟨_, rfl⟩
  obtain ⟨fl, hfl⟩ : ∃ x, x = u.flag := ⟨_, rfl⟩
  obtain ⟨⟨hz1, hz2⟩, hd0, hd4⟩ := hum
  have huv : uv u = .agg #[.string N, .int .i64 dm, .int .i64 (z : Int), .bool fl] := by rw [hN, hdm, hfl, ← hz1]; rfl
  obtain ⟨y, hy⟩ : ∃ y, y = pE l := ⟨_, rfl⟩
  have hyq : y = qwhy dm (c : Int) (a : Int) := by rw [hy, hdm, hc, ha, hu]; rfl
  have ROK : Hid (y = 0 → Ending.returned (.tuple #[.agg #[.int .i64 dm, .int .i64 (c : Int), .int .i64 (a : Int)], .int .i64 0]) = .returned (.tuple #[.agg #[.int .i64 (rD l), .int .i64 (rC l), .int .i64 (rA l)], .int .i64 (rE l)])) := fun k => by
    obtain ⟨e1, e2, e3, e4⟩ := r_ok (l := l) (by rw [← hy]; exact k)
    exact ret_q (by rw [e2, hdm, hu]) (by rw [e3, hc]) (by rw [e4, ha]) e1.symm
  have RBAD : Hid (y ≠ 0 → Ending.returned (.tuple #[.agg #[.int .i64 0, .int .i64 0, .int .i64 0], .int .i64 83]) = .returned (.tuple #[.agg #[.int .i64 (rD l), .int .i64 (rC l), .int .i64 (rA l)], .int .i64 (rE l)])) := fun k => by
    obtain ⟨e1, e2, e3, e4⟩ := r_bad (l := l) (by rw [← hy]; exact k)
    exact ret_q e2.symm e3.symm e4.symm e1.symm
  rw [← hl]
  have hcase : (b = true ∧ c = pk h ∧ m = r) ∨ (b = false ∧ c = 1 ∧ m = l) := by
    cases hbb : b with
    | true =>
      have := pC_many (l := l) (by rw [← hb]; exact hbb)
      exact .inl ⟨rfl, by rw [hc, this.1, hh], by rw [hm, this.2, hr]⟩
    | false =>
      have := pC_one (l := l) (by rw [← hb]; exact hbb)
      exact .inr ⟨rfl, by rw [hc, this.1], by rw [hm, this.2]⟩
  have CT0 : Hid (∀ w', Below w.heap.size w w' → Calls Tryd.prog 12 #[.string s, .string ⟨#[32, 120, 32]⟩] w' fun e w2 => e = .returned (.tuple #[.string (txtB h), .string (txtB r), .bool b]) ∧ Below w'.heap.size w' w2) := fun w' hbb => by
    rw [hh, hr, hb]; exact cutQ_v s ⟨#[32, 120, 32]⟩ l sepX w' hs (he.mx.below hbb) hl rfl
  have CT1 : ∀ t : ByteArray, t.data.toList = m → t.size ≤ 1000 → ∀ w', Below w.heap.size w w' → Calls Tryd.prog 12 #[.string t, .string ⟨#[32]⟩] w' fun e w2 => e = .returned (.tuple #[.string S1, .string S2, .bool b2]) ∧ Below w'.heap.size w' w2 := fun t ht hts w' hbb => by
    rw [hS1, hS2, hb2]; exact cutQ_v t ⟨#[32]⟩ m [32] w' hts (he.mx.below hbb) ht.symm rfl
  have PKC : Hid (∀ w', Calls Tryd.prog 13 #[.string (txtB h)] w' fun e w2 => e = .returned (.int .i64 ((pk h : Nat) : Int)) ∧ Below w'.heap.size w' w2) := fun w' => by
    have := packages_v (txtB h) w' (by rw [txtB_size]; omega)
    rwa [txtB_list] at this
  have NM : Hid (∀ w', Calls Tryd.prog 14 #[.string S2] w' fun e w2 => e = .returned (.agg #[.string N, .int .i64 dm, .int .i64 (z : Int), .bool fl]) ∧ Below w'.heap.size w' w2) := fun w' => by
    have := unitNamed_v S2 w'
    rwa [← hun, huv] at this
  have AMT : Hid (∀ w', Below w.heap.size w w' → Calls Tryd.prog 15 #[.agg #[.string N, .int .i64 dm, .int .i64 (z : Int), .bool fl], .string S1] w' fun e w2 => e = .returned (.int .i64 (a : Int)) ∧ Below w'.heap.size w' w2) := fun w' hbb => by
    rw [ham]; exact amount_v N dm z fl S1 hz2 hS1s w' (he.err.below hbb)
  have VAL : Hid (∀ w', Calls Tryd.prog 5 #[.agg #[.int .i64 dm, .int .i64 (c : Int), .int .i64 (a : Int)]] w' fun e w2 => e = .returned (.int .i64 y) ∧ Below w'.heap.size w' w2) := fun w' => by
    rw [hyq]; exact Validate_q dm (c : Int) (a : Int) ⟨by omega, by omega, by omega, by omega, by omega, by omega⟩ w'
  have CTR : Hid (b = true → ∀ w', Below w.heap.size w w' → Calls Tryd.prog 12 #[.string (txtB r), .string ⟨#[32]⟩] w' fun e w2 => e = .returned (.tuple #[.string S1, .string S2, .bool b2]) ∧ Below w'.heap.size w' w2) := fun k => by
    rcases hcase with ⟨_, _, k2⟩ | ⟨k1, _, _⟩
    · exact CT1 (txtB r) (by rw [txtB_list, k2]) (by rw [txtB_size]; exact hrl)
    · rw [k] at k1; cases k1
  have CTL : Hid (b = false → ∀ w', Below w.heap.size w w' → Calls Tryd.prog 12 #[.string s, .string ⟨#[32]⟩] w' fun e w2 => e = .returned (.tuple #[.string S1, .string S2, .bool b2]) ∧ Below w'.heap.size w' w2) := fun k => by
    rcases hcase with ⟨k1, _, _⟩ | ⟨_, _, k2⟩
    · rw [k] at k1; cases k1
    · exact CT1 s (by rw [← hl, k2]) hs
  have CC : Hid ((b = true → pk h = c) ∧ (b = false → c = 1)) := by
    rcases hcase with ⟨k1, k2, _⟩ | ⟨k1, k2, _⟩
    · exact ⟨fun _ => k2.symm, fun k => by rw [k1] at k; cases k⟩
    · exact ⟨fun k => (by rw [k1] at k; cases k), fun _ => k2⟩
  have B0 := below_new w (.cells #[.int .i64 0, .int .i64 0, .int .i64 0] 23)
  have x0 := heap_alloc_new w (.cells #[.int .i64 0, .int .i64 0, .int .i64 0] 23)
  obtain ⟨W1, hW1⟩ : ∃ W, W = w.alloc (.cells #[.int .i64 0, .int .i64 0, .int .i64 0] 23) := ⟨_, rfl⟩
  rw [← hW1] at B0 x0
  have HB0 := Lib.hid B0
  have XR0 := Lib.hid x0
  clear hl hll hh hr hb hhl hrl hm hml hc hcb ha hab hS1 hS2 hb2 hS1s hu hun hz ham hN hdm hfl hz1 hz2 hd0 hd4 huv hy hyq hcase CT1 B0 x0 hs he
  cases b with
  | true =>
    have CT := Lib.hid (CTR.out rfl)
    have PK := Lib.hid (CC.out.1 rfl)
    go_enter Tryd.func11, Tryd.ntmps11
    go_wp2_with fail
    rw [← hW1]
    clear hW1
    refine (CT0.out _ HB0.out).mono ?_; rintro e W2 ⟨rfl, b1⟩
    have B1 := Lib.hid (HB0.out.trans (b1.mono HB0.out.size))
    have XR1 := Lib.hid (carry XR0.out b1)
    clear b1
    go_wp2_with fail
    refine (PKC.out _).mono ?_; rintro e W3 ⟨rfl, b1⟩
    rw [PK.out]
    have BW := Lib.hid (B1.out.trans (b1.mono B1.out.size))
    have XR := Lib.hid (carry XR1.out b1)
    clear b1
    go_wp2_with fail
    refine (CT.out _ BW.out).mono ?_; rintro e W3 ⟨rfl, b3⟩
    have B3 := Lib.hid (BW.out.trans (b3.mono BW.out.size))
    have XR3 := Lib.hid (carry XR.out b3)
    clear b3
    go_wp2_with fail
    refine (NM.out _).mono ?_; rintro e W4 ⟨rfl, b4⟩
    have n5 := below_new W4 (.cells #[.string N, .int .i64 dm, .int .i64 (z : Int), .bool fl] 40)
    have x5 := heap_alloc_new W4 (.cells #[.string N, .int .i64 dm, .int .i64 (z : Int), .bool fl] 40)
    have B5 := (B3.out.trans (b4.mono B3.out.size)).trans (n5.mono (Nat.le_trans B3.out.size b4.size))
    have XR5 := Lib.hid (carry (carry XR3.out b4) n5)
    obtain ⟨gu, hgu⟩ : ∃ g, g = W4.heap.size := ⟨_, rfl⟩
    obtain ⟨W5, hW5⟩ : ∃ W, W = W4.alloc (.cells #[.string N, .int .i64 dm, .int .i64 (z : Int), .bool fl] 40) := ⟨_, rfl⟩
    unfold Hid at XR5
    rw [← hW5] at x5 B5 XR5
    rw [← hgu] at x5
    have XR5 := Lib.hid XR5
    have XU := Lib.hid x5
    have HB5 := Lib.hid B5
    have AM : Hid (∀ w', Below W5.heap.size W5 w' → Calls Tryd.prog 15 #[.agg #[.string N, .int .i64 dm, .int .i64 (z : Int), .bool fl], .string S1] w' fun e w2 => e = .returned (.int .i64 (a : Int)) ∧ Below w'.heap.size w' w2) := fun w' hb => AMT.out w' (HB5.out.trans (hb.mono HB5.out.size))
    clear b4 n5 x5 B5
    go_upto_region 7 with fail
    rw [← hW5, ← hgu]
    clear hW5 hgu
    go_cut [13] from 14 to 45 (fun v13 wx => QtyCut W5 dm (c : Int) (a : Int) v13 wx)
    case first =>
      refine wp_region_any (by kernel_rfl) ?_
      refine region_ssa [33, 34, 35, 36, 37, 38, 39, 13] (Below W5.heap.size W5) (ExtT 23 W5.heap.size) (OneR 23 W5.heap.size [.val (.pointer (some ⟨gu, 1, none⟩)), .val (.int .i64 dm), .val (.int .i64 (c : Int)), .val (.agg #[.string N, .int .i64 dm, .int .i64 (z : Int), .bool fl]), .val (.string S1), .val (.int .i64 (a : Int)), .val (.agg #[.int .i64 dm, .int .i64 (c : Int), .int .i64 (a : Int)]), .box, .any]) (OneX 23 8 13 39) (fun f => rfl) (by kernel_rfl) (by kernel_rfl) ?_ ?_ ?_ ?_ (AllFrom.below (n := 9) ?_) ?_
      · exact (Below.refl _ _).drew
      · intro f h; cases h
      · intro i v w1 w2 _ h hE; exact OneR.ext (by decide) i v w1 w2 h hE
      · intro w1 w2 hB hE; exact hB.trans hE.1
      · refine AllFrom.step (m := 8) (j := 1) rfl ?_ ?_
        · intro D f w1 hD hB hR hp hcl hX
          refine wpOp_step rfl (fun K hK => ?_)
          simp only [putAll, Act.put, List.setIfInBounds_toArray, List.set_cons_succ, List.set_cons_zero]
          go_simp
          exact hK _ _ ⟨(.pointer (some ⟨gu, 1, none⟩)), (by show _ = Act.put _ (some 33) _; simp only [putAll, Act.put, List.setIfInBounds_toArray, List.set_cons_succ, List.set_cons_zero, *]), rfl, ExtT.refl _ _ _, fun h => absurd h (no_of (D := D) (hcl 8) (by kernel_rfl) hD)⟩
        refine AllFrom.step (m := 7) (j := 2) rfl ?_ ?_
        · intro D f w1 hD hB hR hp hcl hX
          have e0 : f 33 = (.pointer (some ⟨gu, 1, none⟩)) := (hp_at hp 0 (by kernel_rfl)).2
          have x9 := carry XU.out hB
          obtain ⟨k0, k1, k2, k3, _⟩ := at_block4 x9
          refine wpOp_step rfl (fun K hK => ?_)
          simp only [putAll, Act.put, List.setIfInBounds_toArray, List.set_cons_succ, List.set_cons_zero]
          go_simp
          exact hK _ _ ⟨(.int .i64 dm), (by show _ = Act.put _ (some 34) _; simp only [putAll, Act.put, List.setIfInBounds_toArray, List.set_cons_succ, List.set_cons_zero, *]), rfl, ExtT.refl _ _ _, fun h => absurd h (no_of (D := D) (hcl 8) (by kernel_rfl) hD)⟩
        refine AllFrom.step (m := 6) (j := 3) rfl ?_ ?_
        · intro D f w1 hD hB hR hp hcl hX
          refine wpOp_step rfl (fun K hK => ?_)
          simp only [putAll, Act.put, List.setIfInBounds_toArray, List.set_cons_succ, List.set_cons_zero]
          go_simp
          exact hK _ _ ⟨(.int .i64 (c : Int)), (by show _ = Act.put _ (some 35) _; simp only [putAll, Act.put, List.setIfInBounds_toArray, List.set_cons_succ, List.set_cons_zero, *]), rfl, ExtT.refl _ _ _, fun h => absurd h (no_of (D := D) (hcl 8) (by kernel_rfl) hD)⟩
        refine AllFrom.step (m := 5) (j := 4) rfl ?_ ?_
        · intro D f w1 hD hB hR hp hcl hX
          have x9 := carry XU.out hB
          obtain ⟨k0, k1, k2, k3, _⟩ := at_block4 x9
          refine wpOp_step rfl (fun K hK => ?_)
          simp only [putAll, Act.put, List.setIfInBounds_toArray, List.set_cons_succ, List.set_cons_zero]
          go_simp
          exact hK _ _ ⟨(.agg #[.string N, .int .i64 dm, .int .i64 (z : Int), .bool fl]), (by show _ = Act.put _ (some 36) _; simp only [putAll, Act.put, List.setIfInBounds_toArray, List.set_cons_succ, List.set_cons_zero, *]), rfl, ExtT.refl _ _ _, fun h => absurd h (no_of (D := D) (hcl 8) (by kernel_rfl) hD)⟩
        refine AllFrom.step (m := 4) (j := 5) rfl ?_ ?_
        · intro D f w1 hD hB hR hp hcl hX
          refine wpOp_step rfl (fun K hK => ?_)
          simp only [putAll, Act.put, List.setIfInBounds_toArray, List.set_cons_succ, List.set_cons_zero]
          go_simp
          exact hK _ _ ⟨(.string S1), (by show _ = Act.put _ (some 37) _; simp only [putAll, Act.put, List.setIfInBounds_toArray, List.set_cons_succ, List.set_cons_zero, *]), rfl, ExtT.refl _ _ _, fun h => absurd h (no_of (D := D) (hcl 8) (by kernel_rfl) hD)⟩
        refine AllFrom.step (m := 3) (j := 6) rfl ?_ ?_
        · intro D f w1 hD hB hR hp hcl hX
          have e3 : f 36 = (.agg #[.string N, .int .i64 dm, .int .i64 (z : Int), .bool fl]) := (hp_at hp 3 (by kernel_rfl)).2
          have e4 : f 37 = (.string S1) := (hp_at hp 4 (by kernel_rfl)).2
          refine wpOp_step rfl (fun K hK => ?_)
          simp only [putAll, Act.put, List.setIfInBounds_toArray, List.set_cons_succ, List.set_cons_zero]
          go_simp
          refine (AM.out _ hB).mono ?_
          rintro e w2 ⟨rfl, hb⟩
          go_simp
          exact hK _ _ ⟨(.int .i64 (a : Int)), (by show _ = Act.put _ (some 38) _; simp only [putAll, Act.put, List.setIfInBounds_toArray, List.set_cons_succ, List.set_cons_zero, *]), rfl, ExtT.of_below hb hB.size, fun h => absurd h (no_of (D := D) (hcl 8) (by kernel_rfl) hD)⟩
        refine AllFrom.step (m := 2) (j := 7) rfl ?_ ?_
        · intro D f w1 hD hB hR hp hcl hX
          have e1 : f 34 = (.int .i64 dm) := (hp_at hp 1 (by kernel_rfl)).2
          have e2 : f 35 = (.int .i64 (c : Int)) := (hp_at hp 2 (by kernel_rfl)).2
          have e5 : f 38 = (.int .i64 (a : Int)) := (hp_at hp 5 (by kernel_rfl)).2
          refine wpOp_step rfl (fun K hK => ?_)
          simp only [putAll, Act.put, List.setIfInBounds_toArray, List.set_cons_succ, List.set_cons_zero]
          go_simp
          exact hK _ _ ⟨(.agg #[.int .i64 dm, .int .i64 (c : Int), .int .i64 (a : Int)]), (by show _ = Act.put _ (some 39) _; simp only [putAll, Act.put, List.setIfInBounds_toArray, List.set_cons_succ, List.set_cons_zero, *]), rfl, ExtT.refl _ _ _, fun h => absurd h (no_of (D := D) (hcl 8) (by kernel_rfl) hD)⟩
        refine AllFrom.step (m := 1) (j := 8) rfl ?_ ?_
        · intro D f w1 hD hB hR hp hcl hX
          refine wpOp_step rfl (fun K hK => ?_)
          simp only [putAll, Act.put, List.setIfInBounds_toArray, List.set_cons_succ, List.set_cons_zero]
          go_simp
          exact hK _ _ ⟨.pointer (some ⟨w1.heap.size, 0, none⟩), (by show _ = Act.put _ (some 13) _; simp only [putAll, Act.put, List.setIfInBounds_toArray, List.set_cons_succ, List.set_cons_zero, *]), ⟨w1.heap.size, rfl, hB.size, newBT _ _ _ _ _⟩, ExtT.of_below (below_new _ _) hB.size, fun h => absurd h (no_of (D := D) (hcl 8) (by kernel_rfl) hD)⟩
        refine AllFrom.step (m := 0) (j := 9) rfl ?_ ?_
        · intro D f w1 hD hB hR hp hcl hX
          obtain ⟨g, eg, hg, hb⟩ := (hp_at hp 7 (by kernel_rfl)).2
          have ev : f 39 = (.agg #[.int .i64 dm, .int .i64 (c : Int), .int .i64 (a : Int)]) := (hp_at hp 6 (by kernel_rfl)).2
          replace eg : f 13 = _ := eg
          obtain ⟨u0, u1, u2, q0, q1, q2, z0, z1, z2⟩ := hb.facts
          refine wpOp_step rfl (fun K hK => ?_)
          simp only [putAll, Act.put, List.setIfInBounds_toArray, List.set_cons_succ, List.set_cons_zero]
          go_simp
          exact hK _ _ ⟨undef, (by show _ = Act.put _ (none) _; simp only [putAll, Act.put, List.setIfInBounds_toArray, List.set_cons_succ, List.set_cons_zero, *]), trivial, ExtT.set3 hb hg _ _ _, fun _ => by show HoldsT _ _ (f 13) (f 39); rw [eg, ev]; exact HoldsT.new hb _ _ _⟩
        exact AllFrom.nil
      · intro D f w1 hall hB hR hX
        simp only [putAll, Act.put, List.setIfInBounds_toArray, List.set_cons_succ, List.set_cons_zero]
        go_wp2_with fail
        go_meet
        exact qty_cut hB (hX (hall 8 (by decide))) (hR 6 (by decide))
    case rest =>
      obtain ⟨gq, rfl, xq, bq⟩ := hcut
      have XR6 := carry XR5.out bq
      have B6 := Lib.hid (HB5.out.trans (bq.mono HB5.out.size))
      have XQ := Lib.hid xq
      have XR6 := Lib.hid XR6
      obtain ⟨k0, k1, k2, _⟩ := at_blockQ xq
      clear xq bq
      go_wp2_with fail
      refine (VAL.out _).mono ?_; rintro e W7 ⟨rfl, b7⟩
      have B7 := Lib.hid (B6.out.trans (b7.mono B6.out.size))
      have x7 := carry XQ.out b7
      have r7 := carry XR6.out b7
      clear k0 k1 k2 b7
      obtain ⟨k0, k1, k2, _, _, _⟩ := at_blockQ x7
      obtain ⟨u0, u1, u2, q0, q1, q2⟩ := at_blockQ r7
      by_cases hy : y = 0
      · have hyb : (y != 0) = false := by rw [hy]; rfl
        have HE := Lib.hid (ROK.out hy)
        clear hy x7 r7
        go_wp2_with fail
        refine bodyPost_ret (v := .tuple #[.agg #[.int .i64 dm, .int .i64 (c : Int), .int .i64 (a : Int)], .int .i64 0]) (by simp [results, Tryd.results11, go_sem, u0, u1, u2]) rfl ?_
        exact ⟨HE.out, below3 B7.out (Nat.le_refl _) _ _ _⟩
      · have hyb : (y != 0) = true := by simp [hy]
        have HE := Lib.hid (RBAD.out hy)
        clear hy x7 r7
        go_wp2_with fail
        refine bodyPost_ret (v := .tuple #[.agg #[.int .i64 0, .int .i64 0, .int .i64 0], .int .i64 83]) (by simp [results, Tryd.results11, go_sem, u0, u1, u2]) rfl ?_
        first
          | exact ⟨HE.out, below3 B7.out (Nat.le_refl _) _ _ _⟩
          | exact ⟨HE.out, B7.out⟩
  | false =>
    have CT := Lib.hid (CTL.out rfl)
    obtain rfl : c = 1 := CC.out.2 rfl
    go_enter Tryd.func11, Tryd.ntmps11
    go_wp2_with fail
    rw [← hW1]
    clear hW1
    refine (CT0.out _ HB0.out).mono ?_; rintro e W2 ⟨rfl, b1⟩
    have BW := Lib.hid (HB0.out.trans (b1.mono HB0.out.size))
    have XR := Lib.hid (carry XR0.out b1)
    clear b1
    go_wp2_with fail
    refine (CT.out _ BW.out).mono ?_; rintro e W3 ⟨rfl, b3⟩
    have B3 := Lib.hid (BW.out.trans (b3.mono BW.out.size))
    have XR3 := Lib.hid (carry XR.out b3)
    clear b3
    go_wp2_with fail
    refine (NM.out _).mono ?_; rintro e W4 ⟨rfl, b4⟩
    have n5 := below_new W4 (.cells #[.string N, .int .i64 dm, .int .i64 (z : Int), .bool fl] 40)
    have x5 := heap_alloc_new W4 (.cells #[.string N, .int .i64 dm, .int .i64 (z : Int), .bool fl] 40)
    have B5 := (B3.out.trans (b4.mono B3.out.size)).trans (n5.mono (Nat.le_trans B3.out.size b4.size))
    have XR5 := Lib.hid (carry (carry XR3.out b4) n5)
    obtain ⟨gu, hgu⟩ : ∃ g, g = W4.heap.size := ⟨_, rfl⟩
    obtain ⟨W5, hW5⟩ : ∃ W, W = W4.alloc (.cells #[.string N, .int .i64 dm, .int .i64 (z : Int), .bool fl] 40) := ⟨_, rfl⟩
    unfold Hid at XR5
    rw [← hW5] at x5 B5 XR5
    rw [← hgu] at x5
    have XR5 := Lib.hid XR5
    have XU := Lib.hid x5
    have HB5 := Lib.hid B5
    have AM : Hid (∀ w', Below W5.heap.size W5 w' → Calls Tryd.prog 15 #[.agg #[.string N, .int .i64 dm, .int .i64 (z : Int), .bool fl], .string S1] w' fun e w2 => e = .returned (.int .i64 (a : Int)) ∧ Below w'.heap.size w' w2) := fun w' hb => AMT.out w' (HB5.out.trans (hb.mono HB5.out.size))
    clear b4 n5 x5 B5
    go_upto_region 7 with fail
    rw [← hW5, ← hgu]
    clear hW5 hgu
    go_cut [13] from 14 to 45 (fun v13 wx => QtyCut W5 dm 1 (a : Int) v13 wx)
    case first =>
      refine wp_region_any (by kernel_rfl) ?_
      refine region_ssa [33, 34, 35, 36, 37, 38, 39, 13] (Below W5.heap.size W5) (ExtT 23 W5.heap.size) (OneR 23 W5.heap.size [.val (.pointer (some ⟨gu, 1, none⟩)), .val (.int .i64 dm), .val (.int .i64 1), .val (.agg #[.string N, .int .i64 dm, .int .i64 (z : Int), .bool fl]), .val (.string S1), .val (.int .i64 (a : Int)), .val (.agg #[.int .i64 dm, .int .i64 1, .int .i64 (a : Int)]), .box, .any]) (OneX 23 8 13 39) (fun f => rfl) (by kernel_rfl) (by kernel_rfl) ?_ ?_ ?_ ?_ (AllFrom.below (n := 9) ?_) ?_
      · exact (Below.refl _ _).drew
      · intro f h; cases h
      · intro i v w1 w2 _ h hE; exact OneR.ext (by decide) i v w1 w2 h hE
      · intro w1 w2 hB hE; exact hB.trans hE.1
      · refine AllFrom.step (m := 8) (j := 1) rfl ?_ ?_
        · intro D f w1 hD hB hR hp hcl hX
          refine wpOp_step rfl (fun K hK => ?_)
          simp only [putAll, Act.put, List.setIfInBounds_toArray, List.set_cons_succ, List.set_cons_zero]
          go_simp
          exact hK _ _ ⟨(.pointer (some ⟨gu, 1, none⟩)), (by show _ = Act.put _ (some 33) _; simp only [putAll, Act.put, List.setIfInBounds_toArray, List.set_cons_succ, List.set_cons_zero, *]), rfl, ExtT.refl _ _ _, fun h => absurd h (no_of (D := D) (hcl 8) (by kernel_rfl) hD)⟩
        refine AllFrom.step (m := 7) (j := 2) rfl ?_ ?_
        · intro D f w1 hD hB hR hp hcl hX
          have e0 : f 33 = (.pointer (some ⟨gu, 1, none⟩)) := (hp_at hp 0 (by kernel_rfl)).2
          have x9 := carry XU.out hB
          obtain ⟨k0, k1, k2, k3, _⟩ := at_block4 x9
          refine wpOp_step rfl (fun K hK => ?_)
          simp only [putAll, Act.put, List.setIfInBounds_toArray, List.set_cons_succ, List.set_cons_zero]
          go_simp
          exact hK _ _ ⟨(.int .i64 dm), (by show _ = Act.put _ (some 34) _; simp only [putAll, Act.put, List.setIfInBounds_toArray, List.set_cons_succ, List.set_cons_zero, *]), rfl, ExtT.refl _ _ _, fun h => absurd h (no_of (D := D) (hcl 8) (by kernel_rfl) hD)⟩
        refine AllFrom.step (m := 6) (j := 3) rfl ?_ ?_
        · intro D f w1 hD hB hR hp hcl hX
          refine wpOp_step rfl (fun K hK => ?_)
          simp only [putAll, Act.put, List.setIfInBounds_toArray, List.set_cons_succ, List.set_cons_zero]
          go_simp
          exact hK _ _ ⟨(.int .i64 1), (by show _ = Act.put _ (some 35) _; simp only [putAll, Act.put, List.setIfInBounds_toArray, List.set_cons_succ, List.set_cons_zero, *]), rfl, ExtT.refl _ _ _, fun h => absurd h (no_of (D := D) (hcl 8) (by kernel_rfl) hD)⟩
        refine AllFrom.step (m := 5) (j := 4) rfl ?_ ?_
        · intro D f w1 hD hB hR hp hcl hX
          have x9 := carry XU.out hB
          obtain ⟨k0, k1, k2, k3, _⟩ := at_block4 x9
          refine wpOp_step rfl (fun K hK => ?_)
          simp only [putAll, Act.put, List.setIfInBounds_toArray, List.set_cons_succ, List.set_cons_zero]
          go_simp
          exact hK _ _ ⟨(.agg #[.string N, .int .i64 dm, .int .i64 (z : Int), .bool fl]), (by show _ = Act.put _ (some 36) _; simp only [putAll, Act.put, List.setIfInBounds_toArray, List.set_cons_succ, List.set_cons_zero, *]), rfl, ExtT.refl _ _ _, fun h => absurd h (no_of (D := D) (hcl 8) (by kernel_rfl) hD)⟩
        refine AllFrom.step (m := 4) (j := 5) rfl ?_ ?_
        · intro D f w1 hD hB hR hp hcl hX
          refine wpOp_step rfl (fun K hK => ?_)
          simp only [putAll, Act.put, List.setIfInBounds_toArray, List.set_cons_succ, List.set_cons_zero]
          go_simp
          exact hK _ _ ⟨(.string S1), (by show _ = Act.put _ (some 37) _; simp only [putAll, Act.put, List.setIfInBounds_toArray, List.set_cons_succ, List.set_cons_zero, *]), rfl, ExtT.refl _ _ _, fun h => absurd h (no_of (D := D) (hcl 8) (by kernel_rfl) hD)⟩
        refine AllFrom.step (m := 3) (j := 6) rfl ?_ ?_
        · intro D f w1 hD hB hR hp hcl hX
          have e3 : f 36 = (.agg #[.string N, .int .i64 dm, .int .i64 (z : Int), .bool fl]) := (hp_at hp 3 (by kernel_rfl)).2
          have e4 : f 37 = (.string S1) := (hp_at hp 4 (by kernel_rfl)).2
          refine wpOp_step rfl (fun K hK => ?_)
          simp only [putAll, Act.put, List.setIfInBounds_toArray, List.set_cons_succ, List.set_cons_zero]
          go_simp
          refine (AM.out _ hB).mono ?_
          rintro e w2 ⟨rfl, hb⟩
          go_simp
          exact hK _ _ ⟨(.int .i64 (a : Int)), (by show _ = Act.put _ (some 38) _; simp only [putAll, Act.put, List.setIfInBounds_toArray, List.set_cons_succ, List.set_cons_zero, *]), rfl, ExtT.of_below hb hB.size, fun h => absurd h (no_of (D := D) (hcl 8) (by kernel_rfl) hD)⟩
        refine AllFrom.step (m := 2) (j := 7) rfl ?_ ?_
        · intro D f w1 hD hB hR hp hcl hX
          have e1 : f 34 = (.int .i64 dm) := (hp_at hp 1 (by kernel_rfl)).2
          have e2 : f 35 = (.int .i64 1) := (hp_at hp 2 (by kernel_rfl)).2
          have e5 : f 38 = (.int .i64 (a : Int)) := (hp_at hp 5 (by kernel_rfl)).2
          refine wpOp_step rfl (fun K hK => ?_)
          simp only [putAll, Act.put, List.setIfInBounds_toArray, List.set_cons_succ, List.set_cons_zero]
          go_simp
          exact hK _ _ ⟨(.agg #[.int .i64 dm, .int .i64 1, .int .i64 (a : Int)]), (by show _ = Act.put _ (some 39) _; simp only [putAll, Act.put, List.setIfInBounds_toArray, List.set_cons_succ, List.set_cons_zero, *]), rfl, ExtT.refl _ _ _, fun h => absurd h (no_of (D := D) (hcl 8) (by kernel_rfl) hD)⟩
        refine AllFrom.step (m := 1) (j := 8) rfl ?_ ?_
        · intro D f w1 hD hB hR hp hcl hX
          refine wpOp_step rfl (fun K hK => ?_)
          simp only [putAll, Act.put, List.setIfInBounds_toArray, List.set_cons_succ, List.set_cons_zero]
          go_simp
          exact hK _ _ ⟨.pointer (some ⟨w1.heap.size, 0, none⟩), (by show _ = Act.put _ (some 13) _; simp only [putAll, Act.put, List.setIfInBounds_toArray, List.set_cons_succ, List.set_cons_zero, *]), ⟨w1.heap.size, rfl, hB.size, newBT _ _ _ _ _⟩, ExtT.of_below (below_new _ _) hB.size, fun h => absurd h (no_of (D := D) (hcl 8) (by kernel_rfl) hD)⟩
        refine AllFrom.step (m := 0) (j := 9) rfl ?_ ?_
        · intro D f w1 hD hB hR hp hcl hX
          obtain ⟨g, eg, hg, hb⟩ := (hp_at hp 7 (by kernel_rfl)).2
          have ev : f 39 = (.agg #[.int .i64 dm, .int .i64 1, .int .i64 (a : Int)]) := (hp_at hp 6 (by kernel_rfl)).2
          replace eg : f 13 = _ := eg
          obtain ⟨u0, u1, u2, q0, q1, q2, z0, z1, z2⟩ := hb.facts
          refine wpOp_step rfl (fun K hK => ?_)
          simp only [putAll, Act.put, List.setIfInBounds_toArray, List.set_cons_succ, List.set_cons_zero]
          go_simp
          exact hK _ _ ⟨undef, (by show _ = Act.put _ (none) _; simp only [putAll, Act.put, List.setIfInBounds_toArray, List.set_cons_succ, List.set_cons_zero, *]), trivial, ExtT.set3 hb hg _ _ _, fun _ => by show HoldsT _ _ (f 13) (f 39); rw [eg, ev]; exact HoldsT.new hb _ _ _⟩
        exact AllFrom.nil
      · intro D f w1 hall hB hR hX
        simp only [putAll, Act.put, List.setIfInBounds_toArray, List.set_cons_succ, List.set_cons_zero]
        go_wp2_with fail
        go_meet
        exact qty_cut hB (hX (hall 8 (by decide))) (hR 6 (by decide))
    case rest =>
      obtain ⟨gq, rfl, xq, bq⟩ := hcut
      have XR6 := carry XR5.out bq
      have B6 := Lib.hid (HB5.out.trans (bq.mono HB5.out.size))
      have XQ := Lib.hid xq
      have XR6 := Lib.hid XR6
      obtain ⟨k0, k1, k2, _⟩ := at_blockQ xq
      clear xq bq
      go_wp2_with fail
      refine (VAL.out _).mono ?_; rintro e W7 ⟨rfl, b7⟩
      have B7 := Lib.hid (B6.out.trans (b7.mono B6.out.size))
      have x7 := carry XQ.out b7
      have r7 := carry XR6.out b7
      clear k0 k1 k2 b7
      obtain ⟨k0, k1, k2, _, _, _⟩ := at_blockQ x7
      obtain ⟨u0, u1, u2, q0, q1, q2⟩ := at_blockQ r7
      by_cases hy : y = 0
      · have hyb : (y != 0) = false := by rw [hy]; rfl
        have HE := Lib.hid (ROK.out hy)
        clear hy x7 r7
        go_wp2_with fail
        refine bodyPost_ret (v := .tuple #[.agg #[.int .i64 dm, .int .i64 1, .int .i64 (a : Int)], .int .i64 0]) (by simp [results, Tryd.results11, go_sem, u0, u1, u2]) rfl ?_
        exact ⟨HE.out, below3 B7.out (Nat.le_refl _) _ _ _⟩
      · have hyb : (y != 0) = true := by simp [hy]
        have HE := Lib.hid (RBAD.out hy)
        clear hy x7 r7
        go_wp2_with fail
        refine bodyPost_ret (v := .tuple #[.agg #[.int .i64 0, .int .i64 0, .int .i64 0], .int .i64 83]) (by simp [results, Tryd.results11, go_sem, u0, u1, u2]) rfl ?_
        first
          | exact ⟨HE.out, below3 B7.out (Nat.le_refl _) _ _ _⟩
          | exact ⟨HE.out, B7.out⟩
end Go.Proofs.YtobiepkhommeaaaDoor
/- Quantities: the sanity check. -/
namespace Go.Proofs.YtobiepkhommeaaaDoor
open Go.RowKit

def awk : List UInt8 := [54, 32, 120, 32, 51, 51, 48, 32, 109, 108]
theorem dec_330 : Lib.decDigits 330 = [51, 51, 48] := by
  repeat (rw [dec_big (by omega)])
  rw [dec_small (by omega)]
  rfl
theorem dec_6 : Lib.decDigits 6 = [54] := by
  rw [dec_small (by omega)]
  rfl
theorem awk_text : awk = qtext 6 (fbody 0 (Lib.decDigits 330)) [109, 108] := by
  have e : fbody 0 (Lib.decDigits 330) = Lib.decDigits 330 := if_neg (by omega)
  unfold qtext
  rw [if_pos (by omega), e, dec_6, dec_330]
  rfl
theorem awk_reads : rE awk = 0 ∧ rD awk = 2 ∧ rC awk = 6 ∧ rA awk = 330 := by
  obtain ⟨e1, e2, e3⟩ := qtext_reads (c := 6) (a := 330) (k := 0) (V := 330) (u := ⟨[109, 108], 2, 1, false⟩) (l := awk) awk_text (by simp [cU]) (by omega) (by omega) (by decide) (by omega) (by omega) (by omega)
  have he : pE awk = 0 := by
    unfold pE
    rw [e1, e2, e3]
    decide
  obtain ⟨f1, f2, f3, f4⟩ := r_ok he
  exact ⟨f1, by rw [f2, e1], by rw [f3, e2]; rfl, by rw [f4, e3]; rfl⟩
theorem qtot_awk : qtot 2 6 330 = 1980 := by decide

set_option maxHeartbeats 4000000 in
set_option maxRecDepth 100000 in
theorem awake8_v (w : World) (he : Env w) : Calls Tryd.prog 9 #[] w fun e w' => e = .returned (.bool true) ∧ Below w.heap.size w w' := by
  have QP : Hid (Calls Tryd.prog 11 #[.string ⟨#[54, 32, 120, 32, 51, 51, 48, 32, 109, 108]⟩] w fun e w' => e = .returned (.tuple #[.agg #[.int .i64 2, .int .i64 6, .int .i64 330], .int .i64 0]) ∧ Below w.heap.size w w') := by
    have h := QParse_v ⟨#[54, 32, 120, 32, 51, 51, 48, 32, 109, 108]⟩ w (by decide) he
    obtain ⟨e1, e2, e3, e4⟩ := awk_reads
    rw [show (⟨#[54, 32, 120, 32, 51, 51, 48, 32, 109, 108]⟩ : ByteArray).data.toList = awk from rfl, e1, e2, e3, e4] at h
    exact h
  have TC : Hid (∀ w, Calls Tryd.prog 7 #[.agg #[.int .i64 2, .int .i64 6, .int .i64 330]] w fun e w' => e = .returned (.int .i64 1980) ∧ Below w.heap.size w w') := fun w => by
    have h := Total_q 2 6 330 ⟨by omega, by omega, by omega, by omega, by omega, by omega⟩ w
    rw [qtot_awk] at h
    exact h
  clear he
  go_enter Tryd.func9, Tryd.ntmps9
  go_wp2_with fail
  refine QP.out.mono ?_; rintro e W2 ⟨rfl, b2⟩
  have n3 := below_new W2 (.cells #[.int .i64 2, .int .i64 6, .int .i64 330] 23)
  have B3 := Lib.hid (b2.trans (n3.mono b2.size))
  clear b2 n3
  go_wp2_with fail
  refine (TC.out _).mono ?_; rintro e W4 ⟨rfl, b4⟩
  have B4 := Lib.hid (B3.out.trans (b4.mono B3.out.size))
  clear b4
  go_wp2_with fail
  go_ret
  exact ⟨rfl, B4.out⟩
end Go.Proofs.YtobiepkhommeaaaDoor
