import Derived.Test.YtobiepkhommeaaaGreatDoorQtysA
import Derived.Test.YtobiepkhommeaaaGreatDoorPairs
import Derived.Test.YtobiepkhommeaaaGreatDoorQtysM
import Derived.Test.YtobiepkhommeaaaGreatDoorPars
import Derived.Test.YtobiepkhommeaaaGreatDoorPrts
import Derived.Test.YtobiepkhommeaaaGreatDoorRat11
import Derived.Test.YtobiepkhommeaaaGreatDoorPows2
import Derived.Deep.CutRange
/- Quantities: unitNamed, standardUnit, unitFor; packages, strings.Cut, a unit's amount. -/
namespace Go.Proofs.YtobiepkhommeaaaGreatDoor
open Go.RowKit

theorem cell1 {w : World} {g : Nat} {u : Value} {t : TypeId} (h : w.heap[g]? = some (.cells #[u] t (0, 0))) : w.cell? ⟨g, 0, none⟩ = some u := by simp [World.cell?, h]
/-- the cell of bytealg.MaxLen holds a number -/
def MX (w : World) : Prop := ∃ m : Int, w.cell? ⟨0, 0, none⟩ = some (.int .i64 m)
theorem MX.below {w w' : World} (h : MX w) (b : Below w.heap.size w w') : MX w' := by
  obtain ⟨m, h⟩ := h
  exact ⟨m, cellQ h b⟩
/-- what the quantities' texts need of the world: the table of powers of ten, strconv.ErrSyntax, bytealg.MaxLen -/
structure Env (w : World) : Prop where
  tab : Tab w
  err : ErrV w
  mx : MX w
theorem Env.below {w w' : World} (h : Env w) (b : Below w.heap.size w w') : Env w' := ⟨h.tab.below b, h.err.below b, h.mx.below b⟩
theorem drewN_b (w : World) (n : Nat) : Below w.heap.size w (w.drewN n) := drewN_below (Below.refl _ _) n
theorem cutQ_v (s p : ByteArray) (l q : List UInt8) (w : World) (hs : s.size ≤ 1000) (hm : MX w) (hl : l = s.data.toList) (hq : q = p.data.toList) :
    Calls Tryz.prog 74 #[.string s, .string p] w fun e w' => e = .returned (.tuple #[.string (txtB (Lib.cut l q).1), .string (txtB (Lib.cut l q).2.1), .bool (Lib.cut l q).2.2]) ∧ Below w.heap.size w w' := by
  obtain ⟨m, hm⟩ := hm
  subst hl hq
  refine (Tryz.strings_Cut s p m w (by omega) hm).mono ?_
  rintro e w' ⟨rfl, n, rfl⟩
  exact ⟨rfl, drewN_b _ _⟩
theorem FromInt_nat (z : Nat) (hz : z ≤ 1099511627776) (i : Int) (hi : i = (z : Int)) (w : World) : Calls Tryz.prog 47 #[.int .i64 i] w (MakesQ (rq false z 1) 2 w) := by
  subst hi
  have h := FromInt_q (z : Int) (by omega) (by omega) w
  rwa [decide_eq_false (show ¬ (z : Int) < 0 by omega), Int.natAbs_natCast] at h

set_option maxHeartbeats 4000000 in
set_option maxRecDepth 100000 in
theorem unitNamed_v (s : ByteArray) (w : World) :
    Calls Tryz.prog 76 #[.string s] w fun e w' => e = .returned (uv (namedU s.data.toList)) ∧ Below w.heap.size w w' := by
  have B0 := below_new w (.cells #[.string s] 9)
  have B1 := B0.trans ((below_new (w.alloc (.cells #[.string s] 9)) (.cells #[.string ⟨#[]⟩, .int .i64 0, .int .i64 0, .bool false] 86)).mono B0.size)
  have x1 := heap_alloc_new (w.alloc (.cells #[.string s] 9)) (.cells #[.string ⟨#[]⟩, .int .i64 0, .int .i64 0, .bool false] 86)
  have y0 := carry (heap_alloc_new w (.cells #[.string s] 9)) (below_new (w.alloc (.cells #[.string s] 9)) (.cells #[.string ⟨#[]⟩, .int .i64 0, .int .i64 0, .bool false] 86))
  have hs1 : (w.alloc (.cells #[.string s] 9)).heap.size = w.heap.size + 1 := World.size_alloc _ _
  obtain ⟨W1, hW1⟩ : ∃ W, W = (w.alloc (.cells #[.string s] 9)).alloc (.cells #[.string ⟨#[]⟩, .int .i64 0, .int .i64 0, .bool false] 86) := ⟨_, rfl⟩
  rw [hs1] at x1
  rw [← hW1] at B1 x1 y0
  have FC := Lib.hid (firstN_v s w.heap.size W1 (cell1 y0))
  obtain ⟨u, hu⟩ : ∃ u, u = namedU s.data.toList := ⟨_, rfl⟩
  have FD : Hid (Calls Tryz.prog 110 #[.func (.func 122) #[] #[.pointer (some ⟨w.heap.size, 0, none⟩)]] W1 fun e w' => e = .returned (uv u) ∧ Below W1.heap.size W1 w') := by rw [hu]; exact FC.out
  rw [← hu]
  obtain ⟨N, hN⟩ : ∃ N, N = txtB u.name := ⟨_, rfl⟩
  obtain ⟨dm, hdm⟩ : ∃ x, x = u.dim := ⟨_, rfl⟩
  obtain ⟨z, hz⟩ : ∃ x, x = u.size := ⟨_, rfl⟩
  obtain ⟨fl, hfl⟩ : ∃ x, x = u.flag := ⟨_, rfl⟩
  have huv : uv u = .agg #[.string N, .int .i64 dm, .int .i64 z, .bool fl] := by rw [hN, hdm, hz, hfl]; rfl
  unfold Hid at FD
  rw [huv] at FD ⊢
  have FD := Lib.hid FD
  have HB1 := Lib.hid B1
  have X1 := Lib.hid x1
  clear FC hu hN hdm hz hfl huv B0 B1 y0 x1 hs1
  go_enter Tryz.func76, Tryz.ntmps76
  go_wp2_with fail
  rw [← hW1]
  clear hW1
  refine (FD.out).mono ?_; rintro e W2 ⟨rfl, b2⟩
  have x2 := carry X1.out b2
  obtain ⟨u0, u1, u2, u3, q0, q1, q2, q3⟩ := at_block4 x2
  have HB2 := Lib.hid (HB1.out.trans (b2.mono HB1.out.size))
  clear b2 x2
  go_wp2_with fail
  refine bodyPost_ret (v := .agg #[.string N, .int .i64 dm, .int .i64 z, .bool fl]) (by simp [results, Tryz.results76, go_sem, u0, u1, u2, u3]) rfl ?_
  exact ⟨rfl, below4 HB2.out (by omega) _ _ _ _⟩

set_option maxHeartbeats 4000000 in
set_option maxRecDepth 100000 in
theorem standardUnit_v (d : Int) (w : World) :
    Calls Tryz.prog 85 #[.int .i64 d] w fun e w' => e = .returned (uv (stdU d)) ∧ Below w.heap.size w w' := by
  have B0 := below_new w (.cells #[.int .i64 d] 3)
  have B1 := B0.trans ((below_new (w.alloc (.cells #[.int .i64 d] 3)) (.cells #[.string ⟨#[]⟩, .int .i64 0, .int .i64 0, .bool false] 86)).mono B0.size)
  have x1 := heap_alloc_new (w.alloc (.cells #[.int .i64 d] 3)) (.cells #[.string ⟨#[]⟩, .int .i64 0, .int .i64 0, .bool false] 86)
  have y0 := carry (heap_alloc_new w (.cells #[.int .i64 d] 3)) (below_new (w.alloc (.cells #[.int .i64 d] 3)) (.cells #[.string ⟨#[]⟩, .int .i64 0, .int .i64 0, .bool false] 86))
  have hs1 : (w.alloc (.cells #[.int .i64 d] 3)).heap.size = w.heap.size + 1 := World.size_alloc _ _
  obtain ⟨W1, hW1⟩ : ∃ W, W = (w.alloc (.cells #[.int .i64 d] 3)).alloc (.cells #[.string ⟨#[]⟩, .int .i64 0, .int .i64 0, .bool false] 86) := ⟨_, rfl⟩
  rw [hs1] at x1
  rw [← hW1] at B1 x1 y0
  have FC := Lib.hid (firstS_v d w.heap.size W1 (cell1 y0))
  obtain ⟨u, hu⟩ : ∃ u, u = stdU d := ⟨_, rfl⟩
  have FD : Hid (Calls Tryz.prog 110 #[.func (.func 126) #[] #[.pointer (some ⟨w.heap.size, 0, none⟩)]] W1 fun e w' => e = .returned (uv u) ∧ Below W1.heap.size W1 w') := by rw [hu]; exact FC.out
  rw [← hu]
  obtain ⟨N, hN⟩ : ∃ N, N = txtB u.name := ⟨_, rfl⟩
  obtain ⟨dm, hdm⟩ : ∃ x, x = u.dim := ⟨_, rfl⟩
  obtain ⟨z, hz⟩ : ∃ x, x = u.size := ⟨_, rfl⟩
  obtain ⟨fl, hfl⟩ : ∃ x, x = u.flag := ⟨_, rfl⟩
  have huv : uv u = .agg #[.string N, .int .i64 dm, .int .i64 z, .bool fl] := by rw [hN, hdm, hz, hfl]; rfl
  unfold Hid at FD
  rw [huv] at FD ⊢
  have FD := Lib.hid FD
  have HB1 := Lib.hid B1
  have X1 := Lib.hid x1
  clear FC hu hN hdm hz hfl huv B0 B1 y0 x1 hs1
  go_enter Tryz.func85, Tryz.ntmps85
  go_wp2_with fail
  rw [← hW1]
  clear hW1
  refine (FD.out).mono ?_; rintro e W2 ⟨rfl, b2⟩
  have x2 := carry X1.out b2
  obtain ⟨u0, u1, u2, u3, q0, q1, q2, q3⟩ := at_block4 x2
  have HB2 := Lib.hid (HB1.out.trans (b2.mono HB1.out.size))
  clear b2 x2
  go_wp2_with fail
  refine bodyPost_ret (v := .agg #[.string N, .int .i64 dm, .int .i64 z, .bool fl]) (by simp [results, Tryz.results85, go_sem, u0, u1, u2, u3]) rfl ?_
  exact ⟨rfl, below4 HB2.out (by omega) _ _ _ _⟩

set_option maxHeartbeats 4000000 in
set_option maxRecDepth 100000 in
theorem unitFor_v (d a : Int) (ha : 1 ≤ a) (ha2 : a ≤ 1099511627776) (w : World) :
    Calls Tryz.prog 64 #[.int .i64 d, .int .i64 a] w fun e w' => e = .returned (uv (forU d a)) ∧ Below w.heap.size w w' := by
  obtain ⟨Wa, hWa⟩ : ∃ W, W = w.alloc (.cells #[.int .i64 d] 3) := ⟨_, rfl⟩
  obtain ⟨Wb, hWb⟩ : ∃ W, W = Wa.alloc (.cells #[.int .i64 a] 2) := ⟨_, rfl⟩
  obtain ⟨W1, hW1⟩ : ∃ W, W = Wb.alloc (.cells #[.string ⟨#[]⟩, .int .i64 0, .int .i64 0, .bool false] 86) := ⟨_, rfl⟩
  have s1 : Wa.heap.size = w.heap.size + 1 := by rw [hWa]; exact World.size_alloc _ _
  have s2 : Wb.heap.size = w.heap.size + 1 + 1 := by rw [hWb, World.size_alloc, s1]
  have B0 : Below w.heap.size w Wa := by rw [hWa]; exact below_new _ _
  have B1 : Below Wa.heap.size Wa Wb := by rw [hWb]; exact below_new _ _
  have B2 : Below Wb.heap.size Wb W1 := by rw [hW1]; exact below_new _ _
  have y0 : Wa.heap[w.heap.size]? = some (.cells #[.int .i64 d] 3 (0, 0)) := by rw [hWa]; exact heap_alloc_new _ _
  have y1 : Wb.heap[w.heap.size + 1]? = some (.cells #[.int .i64 a] 2 (0, 0)) := by rw [hWb, ← s1]; exact heap_alloc_new _ _
  have x1 : W1.heap[w.heap.size + 1 + 1]? = some (.cells #[.string ⟨#[]⟩, .int .i64 0, .int .i64 0, .bool false] 86 (0, 0)) := by rw [hW1, ← s2]; exact heap_alloc_new _ _
  have FC := Lib.hid (firstF_v d a ha ha2 w.heap.size (w.heap.size + 1) W1 (cell1 (carry (carry y0 B1) B2)) (cell1 (carry y1 B2)))
  have BB : Below w.heap.size w W1 := (B0.trans (B1.mono B0.size)).trans (B2.mono (Nat.le_trans B0.size B1.size))
  obtain ⟨u, hu⟩ : ∃ u, u = forU d a := ⟨_, rfl⟩
  have FD : Hid (Calls Tryz.prog 110 #[.func (.func 111) #[] #[.pointer (some ⟨w.heap.size, 0, none⟩), .pointer (some ⟨w.heap.size + 1, 0, none⟩)]] W1 fun e w' => e = .returned (uv u) ∧ Below W1.heap.size W1 w') := by rw [hu]; exact FC.out
  rw [← hu]
  obtain ⟨N, hN⟩ : ∃ N, N = txtB u.name := ⟨_, rfl⟩
  obtain ⟨dm, hdm⟩ : ∃ x, x = u.dim := ⟨_, rfl⟩
  obtain ⟨z, hz⟩ : ∃ x, x = u.size := ⟨_, rfl⟩
  obtain ⟨fl, hfl⟩ : ∃ x, x = u.flag := ⟨_, rfl⟩
  have huv : uv u = .agg #[.string N, .int .i64 dm, .int .i64 z, .bool fl] := by rw [hN, hdm, hz, hfl]; rfl
  unfold Hid at FD
  rw [huv] at FD ⊢
  have FD := Lib.hid FD
  have HB1 := Lib.hid BB
  have X1 := Lib.hid x1
  clear FC hu hN hdm hz hfl huv B0 B1 B2 BB y0 y1 x1 ha ha2
  have HS1 := Lib.hid s1
  have HS2 := Lib.hid s2
  clear s1 s2
  go_enter Tryz.func64, Tryz.ntmps64
  go_wp2_with fail
  rw [← hWa, ← hWb, ← hW1]
  clear hW1 hWb hWa
  refine (FD.out).mono ?_; rintro e W2 ⟨rfl, b2⟩
  have x2 := carry X1.out b2
  obtain ⟨u0, u1, u2, u3, q0, q1, q2, q3⟩ := at_block4 x2
  have HB2 := Lib.hid (HB1.out.trans (b2.mono HB1.out.size))
  clear b2 x2
  go_wp2_with fail
  refine bodyPost_ret (v := .agg #[.string N, .int .i64 dm, .int .i64 z, .bool fl]) (by simp [results, Tryz.results64, go_sem, u0, u1, u2, u3]) rfl ?_
  exact ⟨rfl, below4 HB2.out (by omega) _ _ _ _⟩

set_option maxHeartbeats 4000000 in
set_option maxRecDepth 100000 in
theorem packages_v (s : ByteArray) (w : World) (hs : s.size ≤ 9223372036854775807) :
    Calls Tryz.prog 75 #[.string s] w fun e w' => e = .returned (.int .i64 ((pk s.data.toList : Nat) : Int)) ∧ Below w.heap.size w w' := by
  have NP := Lib.hid (Parse_any s w hs)
  obtain ⟨R, hR⟩ : ∃ R, R = txtRes s.data.toList := ⟨_, rfl⟩
  obtain ⟨y, hy⟩ : ∃ y, y = txtWhy s.data.toList := ⟨_, rfl⟩
  obtain ⟨K, hK⟩ : ∃ K, K = pk s.data.toList := ⟨_, rfl⟩
  unfold Hid at NP
  rw [← hR, ← hy] at NP
  have NP := Lib.hid NP
  have KB : (R < 2 ∨ 100 < R) → K = 0 := fun h => by rw [hK]; exact pk_bad (by rw [← hR]; exact h)
  have KG : ¬ (R < 2 ∨ 100 < R) → K = R := fun h => by rw [hK, pk_ok (by rw [← hR]; exact h), hR]
  rw [← hK]
  clear hR hy hK hs
  obtain ⟨v, hv⟩ : ∃ v : Nat, v = fitv R := ⟨_, rfl⟩
  obtain ⟨b, hb⟩ : ∃ b, b = fits R := ⟨_, rfl⟩
  have UI : Hid (∀ w' ao c, Rd w' ao c (dig R) → Calls Tryz.prog 121 #[.slice ao (dig R).length c] w' fun e w'' => e = .returned (.tuple #[.int .u64 (v : Int), .bool b]) ∧ w' = w'') := fun w' ao c h => by
    have := Uint_any ao c (dig R) w' h
    rwa [val_dig, ← hv, ← hb] at this
  have hvs : v < 2 → K = 0 := fun h => by
    by_cases hf : R < 18446744073709551616
    · have := fitv_yes hf
      exact KB (by omega)
    · exact KB (by omega)
  have hvb : 100 < v → K = 0 := fun h => by
    by_cases hf : R < 18446744073709551616
    · have := fitv_yes hf
      exact KB (by omega)
    · exact KB (by omega)
  have hvg : 2 ≤ v → v ≤ 100 → K = v := fun h h' => by
    by_cases hf : R < 18446744073709551616
    · have := fitv_yes hf
      have e : R = v := by omega
      rw [← e]
      exact KG (by omega)
    · have := fitv_no hf
      omega
  clear KB KG hv hb
  obtain ⟨n, hn⟩ : ∃ n, n = (dig R).length := ⟨_, rfl⟩
  by_cases h1 : v < 2
  · have HK := Lib.hid (hvs h1)
    have h1i : (v : Int) < 2 := by omega
    clear hvs hvb hvg hn
    go_enter Tryz.func75, Tryz.ntmps75
    go_wp2_with fail
    refine NP.out.mono ?_; rintro e w2 ⟨a2, c2, rfl, f2, b2⟩
    have HB := Lib.hid b2
    have U2 := Lib.hid (UI.out _ _ _ f2.rd)
    clear f2 b2
    go_wp2_with fail
    refine U2.out.mono ?_; rintro e w3 ⟨rfl, rfl⟩
    go_wp2_with fail
    go_ret
    exact ⟨by rw [HK.out] <;> rfl, HB.out⟩
  · by_cases h2 : 100 < v
    · have HK := Lib.hid (hvb h2)
      have h1i : ¬ (v : Int) < 2 := by omega
      have h2i : (100 : Int) < (v : Int) := by omega
      clear hvs hvb hvg hn
      go_enter Tryz.func75, Tryz.ntmps75
      go_wp2_with fail
      refine NP.out.mono ?_; rintro e w2 ⟨a2, c2, rfl, f2, b2⟩
      have HB := Lib.hid b2
      have U2 := Lib.hid (UI.out _ _ _ f2.rd)
      clear f2 b2
      go_wp2_with fail
      refine U2.out.mono ?_; rintro e w3 ⟨rfl, rfl⟩
      go_wp2_with fail
      go_ret
      exact ⟨by rw [HK.out] <;> rfl, HB.out⟩
    · have HK := Lib.hid (hvg (by omega) (by omega))
      have h1i : ¬ (v : Int) < 2 := by omega
      have h2i : ¬ (100 : Int) < (v : Int) := by omega
      have hwr : IntKind.i64.wrap (v : Int) = (v : Int) := IntWalk.i64_in _ (by omega)
      clear hvs hvb hvg hn
      go_enter Tryz.func75, Tryz.ntmps75
      go_wp2_with fail
      refine NP.out.mono ?_; rintro e w2 ⟨a2, c2, rfl, f2, b2⟩
      have HB := Lib.hid b2
      have U2 := Lib.hid (UI.out _ _ _ f2.rd)
      clear f2 b2
      go_wp2_with fail
      refine U2.out.mono ?_; rintro e w3 ⟨rfl, rfl⟩
      go_wp2_with fail
      go_ret
      exact ⟨by rw [HK.out] <;> rfl, HB.out⟩
end Go.Proofs.YtobiepkhommeaaaGreatDoor
/- Quantities: the base units that a decimal number of a unit stands for. -/
namespace Go.Proofs.YtobiepkhommeaaaGreatDoor
open Go.RowKit

/-- the box of a number, behind a region -/
def NumCut (w : World) (q : Rat) (k : Nat) (v : Value) (wx : World) : Prop := ∃ g s ao n ca bo m cb, v = .pointer (some ⟨g, 0, none⟩) ∧ wx.heap[g]? = some (.cells #[.bool s, .slice ao n ca, .slice bo m cb] 25 (0, 0)) ∧ CQ 0 wx s ao n ca bo m cb q k ∧ Below w.heap.size w wx
theorem num_cut {w w1 : World} {q : Rat} {k : Nat} {p v : Value} (hB : Below w.heap.size w w1) (hH : HoldsT 25 w1 p v) (hq : IsQ q k v w1) : NumCut w q k p w1 := by
  obtain ⟨g, a, b, c, rfl, hv, hx⟩ := hH
  obtain ⟨s, ao, n, ca, bo, m, cb, hv2, hc⟩ := hq
  rw [hv] at hv2
  simp at hv2
  obtain ⟨rfl, rfl, rfl⟩ := hv2
  exact ⟨g, s, ao, n, ca, bo, m, cb, rfl, hx, hc, hB⟩
set_option maxHeartbeats 8000000 in
set_option maxRecDepth 100000 in
theorem amount_v (N : ByteArray) (dm : Int) (z : Nat) (fl : Bool) (s : ByteArray) (hz : z ≤ 1000000) (hs : s.size ≤ 1000) (w : World) (hev : ErrV w) :
    Calls Tryz.prog 77 #[.agg #[.string N, .int .i64 dm, .int .i64 (z : Int), .bool fl], .string s] w fun e w' => e = .returned (.int .i64 ((amt s.data.toList z : Nat) : Int)) ∧ Below w.heap.size w w' := by
  have B0 := below_new w (.cells #[.string N, .int .i64 dm, .int .i64 (z : Int), .bool fl] 86)
  have x0 := heap_alloc_new w (.cells #[.string N, .int .i64 dm, .int .i64 (z : Int), .bool fl] 86)
  obtain ⟨W1, hW1⟩ : ∃ W, W = w.alloc (.cells #[.string N, .int .i64 dm, .int .i64 (z : Int), .bool fl] 86) := ⟨_, rfl⟩
  rw [← hW1] at B0 x0
  have HP := qParse_v s W1 hs (hev.below B0)
  obtain ⟨Q, hQ⟩ : ∃ Q, Q = pqv s.data.toList := ⟨_, rfl⟩
  obtain ⟨c, hc⟩ : ∃ c : Prop, c = ¬ pOk (pneg s.data.toList) (pbody s.data.toList) := ⟨_, rfl⟩
  rw [← hQ, ← hc] at HP
  have HP := Lib.hid HP
  obtain ⟨A, hA⟩ : ∃ A, A = amt s.data.toList z := ⟨_, rfl⟩
  have AZ : Hid (c → A = 0) := fun h => by rw [hA]; exact amt_zero z _ (pqv_bad (by rw [hc] at h; exact h))
  have AN : Hid (A = amtN (Q * rq false z 1)) := by unfold Hid; rw [hA, hQ]; rfl
  rw [← hA]
  have hzb : z ≤ 1099511627776 := by omega
  clear hA hc hQ hev hs hz
  go_enter Tryz.func77, Tryz.ntmps77
  go_wp2_with fail
  rw [← hW1]
  clear hW1
  refine HP.out.mono ?_; rintro e W2 ⟨s2, a2, n2, c2, o2, m2, d2, er, rfl, cq2, hcc, b2⟩
  have n3 := below_new W2 (.cells #[.bool s2, .slice a2 n2 c2, .slice o2 m2 d2] 25)
  have y3 := heap_alloc_new W2 (.cells #[.bool s2, .slice a2 n2 c2, .slice o2 m2 d2] 25)
  have x3 := carry (carry x0 b2) n3
  have B3 := (B0.trans (b2.mono B0.size)).trans (n3.mono (Nat.le_trans B0.size b2.size))
  have cq3 := (cq2.below n3).mono (Nat.zero_le _)
  obtain ⟨W3, hW3⟩ : ∃ W, W = W2.alloc (.cells #[.bool s2, .slice a2 n2 c2, .slice o2 m2 d2] 25) := ⟨_, rfl⟩
  rw [← hW3] at y3 x3 B3 cq3
  have X0 := Lib.hid x3
  have Y3 := Lib.hid y3
  have HB3 := Lib.hid B3
  have CX := Lib.hid cq3
  clear x0 B0 cq2 n3 y3 x3 B3 cq3 b2
  rcases hcc with ⟨hc1, rfl⟩ | ⟨hc1, rfl⟩
  · have HA := Lib.hid (AZ.out hc1)
    go_wp2_with fail
    rw [← hW3]
    go_ret
    exact ⟨by rw [HA.out] <;> rfl, HB3.out⟩
  · clear hc1 AZ HP
    go_upto_region 4 with fail
    rw [← hW3]
    obtain ⟨g3, hg3⟩ : ∃ g, g = W2.heap.size := ⟨_, rfl⟩
    unfold Hid at Y3
    rw [← hg3] at Y3 ⊢
    have Y3 := Lib.hid Y3
    clear hW3 hg3
    go_cut [7] from 10 to 42 (fun v7 wx => NumCut W3 (Q * rq false z 1) 1025 v7 wx)
    case first =>
      refine wp_region_any (by kernel_rfl) ?_
      refine region_ssa [17, 18, 19, 20, 21, 7] (Below W3.heap.size W3) (ExtT 25 W3.heap.size) (OneR 25 W3.heap.size [.val (.agg #[.bool s2, .slice a2 n2 c2, .slice o2 m2 d2]), .val (.pointer (some ⟨w.heap.size, 2, none⟩)), .val (.int .i64 (z : Int)), .num (rq false z 1) (2), .num (Q * rq false z 1) (1025), .box, .any]) (OneX 25 6 7 21) (fun f => rfl) (by kernel_rfl) (by kernel_rfl) ?_ ?_ ?_ ?_ (AllFrom.below (n := 7) ?_) ?_
      · exact (Below.refl _ _).drew
      · intro f h; cases h
      · intro i v w1 w2 _ h hE; exact OneR.ext (by decide) i v w1 w2 h hE
      · intro w1 w2 hB hE; exact hB.trans hE.1
      · refine AllFrom.step (m := 6) (j := 1) rfl ?_ ?_
        · intro D f w1 hD hB hR hp hcl hX
          have x9 := carry X0.out hB
          have y9 := carry Y3.out hB
          obtain ⟨k0, k1, k2, k3, _⟩ := at_block4 x9
          obtain ⟨l0, l1, l2, _⟩ := at_block y9
          refine wpOp_step rfl (fun K hK => ?_)
          simp only [putAll, Act.put, List.setIfInBounds_toArray, List.set_cons_succ, List.set_cons_zero]
          go_simp
          exact hK _ _ ⟨(.agg #[.bool s2, .slice a2 n2 c2, .slice o2 m2 d2]), (by show _ = Act.put _ (some 17) _; simp only [putAll, Act.put, List.setIfInBounds_toArray, List.set_cons_succ, List.set_cons_zero, *]), rfl, ExtT.refl _ _ _, fun h => absurd h (no_of (D := D) (hcl 6) (by kernel_rfl) hD)⟩
        refine AllFrom.step (m := 5) (j := 2) rfl ?_ ?_
        · intro D f w1 hD hB hR hp hcl hX
          refine wpOp_step rfl (fun K hK => ?_)
          simp only [putAll, Act.put, List.setIfInBounds_toArray, List.set_cons_succ, List.set_cons_zero]
          go_simp
          exact hK _ _ ⟨(.pointer (some ⟨w.heap.size, 2, none⟩)), (by show _ = Act.put _ (some 18) _; simp only [putAll, Act.put, List.setIfInBounds_toArray, List.set_cons_succ, List.set_cons_zero, *]), rfl, ExtT.refl _ _ _, fun h => absurd h (no_of (D := D) (hcl 6) (by kernel_rfl) hD)⟩
        refine AllFrom.step (m := 4) (j := 3) rfl ?_ ?_
        · intro D f w1 hD hB hR hp hcl hX
          have e1 : f 18 = (.pointer (some ⟨w.heap.size, 2, none⟩)) := (hp_at hp 1 (by kernel_rfl)).2
          have x9 := carry X0.out hB
          have y9 := carry Y3.out hB
          obtain ⟨k0, k1, k2, k3, _⟩ := at_block4 x9
          obtain ⟨l0, l1, l2, _⟩ := at_block y9
          refine wpOp_step rfl (fun K hK => ?_)
          simp only [putAll, Act.put, List.setIfInBounds_toArray, List.set_cons_succ, List.set_cons_zero]
          go_simp
          exact hK _ _ ⟨(.int .i64 (z : Int)), (by show _ = Act.put _ (some 19) _; simp only [putAll, Act.put, List.setIfInBounds_toArray, List.set_cons_succ, List.set_cons_zero, *]), rfl, ExtT.refl _ _ _, fun h => absurd h (no_of (D := D) (hcl 6) (by kernel_rfl) hD)⟩
        refine AllFrom.step (m := 3) (j := 4) rfl ?_ ?_
        · intro D f w1 hD hB hR hp hcl hX
          have e2 : f 19 = (.int .i64 (z : Int)) := (hp_at hp 2 (by kernel_rfl)).2
          refine wpOp_step rfl (fun K hK => ?_)
          simp only [putAll, Act.put, List.setIfInBounds_toArray, List.set_cons_succ, List.set_cons_zero]
          go_simp
          refine (FromInt_nat z hzb _ rfl _).mono ?_
          rintro e w2 hm
          obtain ⟨v, rfl, hq, hb⟩ := hm.isq
          go_simp
          exact hK _ _ ⟨v, (by show _ = Act.put _ (some 20) _; simp only [putAll, Act.put, List.setIfInBounds_toArray, List.set_cons_succ, List.set_cons_zero, *]), hq, ExtT.of_below hb hB.size, fun h => absurd h (no_of (D := D) (hcl 6) (by kernel_rfl) hD)⟩
        refine AllFrom.step (m := 2) (j := 5) rfl ?_ ?_
        · intro D f w1 hD hB hR hp hcl hX
          have e0 : f 17 = (.agg #[.bool s2, .slice a2 n2 c2, .slice o2 m2 d2]) := (hp_at hp 0 (by kernel_rfl)).2
          obtain ⟨s3, a3, n3, c3, o3, m3, d3, e3, q3⟩ := (hp_at hp 3 (by kernel_rfl)).2
          replace e3 : f 20 = _ := e3
          have cq1 := CX.out.below hB
          refine wpOp_step rfl (fun K hK => ?_)
          simp only [putAll, Act.put, List.setIfInBounds_toArray, List.set_cons_succ, List.set_cons_zero]
          go_simp
          refine (Mul_q s2 s3 a2 o2 a3 o3 n2 c2 m2 d2 n3 c3 m3 d3 512 Q (rq false z 1) _ cq1.rq (RQ.up q3.rq (by omega) (by omega)) (by omega)).mono ?_
          rintro e w2 hm
          obtain ⟨v, rfl, hq, hb⟩ := hm.isq
          go_simp
          exact hK _ _ ⟨v, (by show _ = Act.put _ (some 21) _; simp only [putAll, Act.put, List.setIfInBounds_toArray, List.set_cons_succ, List.set_cons_zero, *]), hq, ExtT.of_below hb hB.size, fun h => absurd h (no_of (D := D) (hcl 6) (by kernel_rfl) hD)⟩
        refine AllFrom.step (m := 1) (j := 6) rfl ?_ ?_
        · intro D f w1 hD hB hR hp hcl hX
          refine wpOp_step rfl (fun K hK => ?_)
          simp only [putAll, Act.put, List.setIfInBounds_toArray, List.set_cons_succ, List.set_cons_zero]
          go_simp
          exact hK _ _ ⟨.pointer (some ⟨w1.heap.size, 0, none⟩), (by show _ = Act.put _ (some 7) _; simp only [putAll, Act.put, List.setIfInBounds_toArray, List.set_cons_succ, List.set_cons_zero, *]), ⟨w1.heap.size, rfl, hB.size, newBT _ _ _ _ _⟩, ExtT.of_below (below_new _ _) hB.size, fun h => absurd h (no_of (D := D) (hcl 6) (by kernel_rfl) hD)⟩
        refine AllFrom.step (m := 0) (j := 7) rfl ?_ ?_
        · intro D f w1 hD hB hR hp hcl hX
          obtain ⟨g, eg, hg, hb⟩ := (hp_at hp 5 (by kernel_rfl)).2
          obtain ⟨s5, a5, n5, c5, o5, m5, d5, ev, hcq⟩ := (hp_at hp 4 (by kernel_rfl)).2
          replace ev : f 21 = _ := ev
          replace eg : f 7 = _ := eg
          obtain ⟨u0, u1, u2, q0, q1, q2, z0, z1, z2⟩ := hb.facts
          refine wpOp_step rfl (fun K hK => ?_)
          simp only [putAll, Act.put, List.setIfInBounds_toArray, List.set_cons_succ, List.set_cons_zero]
          go_simp
          exact hK _ _ ⟨undef, (by show _ = Act.put _ (none) _; simp only [putAll, Act.put, List.setIfInBounds_toArray, List.set_cons_succ, List.set_cons_zero, *]), trivial, ExtT.set3 hb hg _ _ _, fun _ => by show HoldsT _ _ (f 7) (f 21); rw [eg, ev]; exact HoldsT.new hb _ _ _⟩
        exact AllFrom.nil
      · intro D f w1 hall hB hR hX
        simp only [putAll, Act.put, List.setIfInBounds_toArray, List.set_cons_succ, List.set_cons_zero]
        go_wp2_with fail
        go_meet
        exact num_cut hB (hX (hall 6 (by decide))) (hR 4 (by decide))
    case rest =>
      obtain ⟨g5, s5, a5, n5, c5, o5, m5, d5, rfl, x5, cq5, b5⟩ := hcut
      obtain ⟨y, hy⟩ : ∃ y, y = Q * rq false z 1 := ⟨_, rfl⟩
      unfold Hid at AN
      rw [← hy] at cq5 AN
      obtain ⟨hs5, hn5, hm5, fn5, fd5, _, _⟩ := cq5
      obtain ⟨v, hv⟩ : ∃ v : Nat, v = fitv (rn y) := ⟨_, rfl⟩
      obtain ⟨b, hb⟩ : ∃ b, b = fits (rn y) := ⟨_, rfl⟩
      have UI : Hid (Calls Tryz.prog 121 #[.slice a5 n5 c5] wc fun e w'' => e = .returned (.tuple #[.int .u64 (v : Int), .bool b]) ∧ wc = w'') := by
        have := Uint_any a5 c5 (dig (rn y)) wc fn5.rd
        unfold Hid
        rw [hn5]
        rwa [val_dig, ← hv, ← hb] at this
      have hvb : v < 18446744073709551616 := by
        by_cases hf : rn y < 18446744073709551616
        · have := fitv_yes hf; omega
        · have := fitv_no hf; omega
      have hm0 : y.den = 1 → m5 = 0 := fun h => by rw [hm5, h]; rfl
      have hm1 : y.den ≠ 1 → 0 < m5 := fun h => by
        rw [hm5, dd_of h]
        refine List.length_pos_iff.2 (fun e => ?_)
        have h2 : val (dig y.den) = y.den := val_dig _
        rw [e] at h2
        have h3 := den_pos y
        have h4 : val [] = 0 := rfl
        omega
      have A0 : (s5 = true ∨ y.den ≠ 1 ∨ 1099511627776 < rn y) → A = 0 := fun h => by
        rw [AN]
        refine if_neg (fun k => ?_)
        obtain ⟨k1, k2, k3⟩ := k
        rcases h with h | h | h
        · rw [hs5, k1] at h; cases h
        · exact h k2
        · omega
      have A1 : s5 = false → y.den = 1 → rn y ≤ 1099511627776 → A = rn y := fun h1 h2 h3 => by
        rw [AN]
        exact if_pos ⟨by rw [← hs5]; exact h1, h2, h3⟩
      obtain ⟨k0, k1, k2, _⟩ := at_block x5
      have HB5 := Lib.hid (HB3.out.trans (b5.mono HB3.out.size))
      clear x5 fn5 fd5 b5 hs5 hn5 hm5
      cases s5 with
      | true =>
        have HA := Lib.hid (A0 (.inl rfl))
        clear A0 A1 hm0 hm1 AN hv hb
        go_wp2_with fail
        refine UI.out.mono ?_; rintro e w6 ⟨rfl, rfl⟩
        go_wp2_with fail
        go_ret
        exact ⟨by rw [HA.out] <;> rfl, HB5.out⟩
      | false =>
        by_cases hd1 : y.den = 1
        · obtain rfl : m5 = 0 := hm0 hd1
          by_cases hbig : 1099511627776 < v
          · have HA : Hid (A = 0) := A0 (.inr (.inr (by
              by_cases hf : rn y < 18446744073709551616
              · have := fitv_yes hf; omega
              · have := fitv_no hf; omega)))
            have hbi : (1099511627776 : Int) < (v : Int) := by omega
            clear A0 A1 hm0 hm1 AN hv hb hd1
            go_wp2_with fail
            refine UI.out.mono ?_; rintro e w6 ⟨rfl, rfl⟩
            go_wp2_with fail
            go_ret
            exact ⟨by rw [HA.out] <;> rfl, HB5.out⟩
          · have HA : Hid (A = v) := by
              unfold Hid
              by_cases hf : rn y < 18446744073709551616
              · have := fitv_yes hf
                have e : rn y = v := by omega
                rw [← e]
                exact A1 rfl hd1 (by omega)
              · have := fitv_no hf
                have e : v = 0 := by omega
                rw [e]
                exact A0 (.inr (.inr (by omega)))
            have hbi : ¬ (1099511627776 : Int) < (v : Int) := by omega
            have hwr : IntKind.i64.wrap (v : Int) = (v : Int) := IntWalk.i64_in _ (by omega)
            clear A0 A1 hm0 hm1 AN hv hb hd1
            go_wp2_with fail
            refine UI.out.mono ?_; rintro e w6 ⟨rfl, rfl⟩
            go_wp2_with fail
            go_ret
            exact ⟨by rw [HA.out] <;> rfl, HB5.out⟩
        · have hmp : 0 < m5 := hm1 hd1
          have hmpi : (0 : Int) < (m5 : Int) := by omega
          have HA := Lib.hid (A0 (.inr (.inl hd1)))
          clear A0 A1 hm0 hm1 AN hv hb hd1
          go_wp2_with fail
          refine UI.out.mono ?_; rintro e w6 ⟨rfl, rfl⟩
          go_wp2_with fail
          go_ret
          exact ⟨by rw [HA.out] <;> rfl, HB5.out⟩
end Go.Proofs.YtobiepkhommeaaaGreatDoor
/- Quantities: Parse of the code. -/
namespace Go.Proofs.YtobiepkhommeaaaGreatDoor
open Go.RowKit

theorem at_blockQ {w : World} {g : Nat} {u v x : Value} {t : TypeId} (h : w.heap[g]? = some (.cells #[u, v, x] t (0, 0))) :
    w.cell? ⟨g, 0, none⟩ = some u ∧ w.cell? ⟨g, 1, none⟩ = some v ∧ w.cell? ⟨g, 2, none⟩ = some x ∧ w.frozen? ⟨g, 0, none⟩ = false ∧ w.frozen? ⟨g, 1, none⟩ = false ∧ w.frozen? ⟨g, 2, none⟩ = false := by
  refine ⟨?_, ?_, ?_, ?_, ?_, ?_⟩
  · simp [World.cell?, h]
  · simp [World.cell?, h]
  · simp [World.cell?, h]
  · simp [World.frozen?, h]
  · simp [World.frozen?, h]
  · simp [World.frozen?, h]
/-- the box of a quantity, behind a region -/
def QtyCut (w : World) (d c a : Int) (v : Value) (wx : World) : Prop := ∃ g, v = .pointer (some ⟨g, 0, none⟩) ∧ wx.heap[g]? = some (.cells #[.int .i64 d, .int .i64 c, .int .i64 a] 39 (0, 0)) ∧ Below w.heap.size w wx
theorem qty_cut {w w1 : World} {d c a : Int} {p v : Value} (hB : Below w.heap.size w w1) (hH : HoldsT 39 w1 p v) (hv : v = .agg #[.int .i64 d, .int .i64 c, .int .i64 a]) : QtyCut w d c a p w1 := by
  obtain ⟨g, x, y, z, rfl, hv2, hx⟩ := hH
  rw [hv] at hv2
  simp at hv2
  obtain ⟨rfl, rfl, rfl⟩ := hv2
  exact ⟨g, rfl, hx, hB⟩
theorem cut_len (l q : List UInt8) : (Lib.cut l q).1.length ≤ l.length ∧ (Lib.cut l q).2.1.length ≤ l.length := by
  unfold Lib.cut
  split
  · constructor
    · simp; omega
    · simp
  · simp
theorem ret_q {d c a e d' c' a' e' : Int} (h1 : d = d') (h2 : c = c') (h3 : a = a') (h4 : e = e') : Ending.returned (.tuple #[.agg #[.int .i64 d, .int .i64 c, .int .i64 a], .int .i64 e]) = .returned (.tuple #[.agg #[.int .i64 d', .int .i64 c', .int .i64 a'], .int .i64 e']) := by rw [h1, h2, h3, h4]

set_option maxHeartbeats 20000000 in
set_option maxRecDepth 100000 in
theorem QParse_v (s : ByteArray) (w : World) (hs : s.size ≤ 1000) (he : Env w) :
    Calls Tryz.prog 27 #[.string s] w fun e w' => e = .returned (.tuple #[.agg #[.int .i64 (rD s.data.toList), .int .i64 (rC s.data.toList), .int .i64 (rA s.data.toList)], .int .i64 (rE s.data.toList)]) ∧ Below w.heap.size w w' := by
  obtain ⟨l, hl⟩ : ∃ l, l = s.data.toList := ⟨_, rfl⟩
  have hll : l.length ≤ 1000 := by rw [hl]; have := size_list s; omega
  obtain ⟨h, hh⟩ : ∃ x, x = (Lib.cut l sepX).1 := ⟨_, rfl⟩
  obtain ⟨r, hr⟩ : ∃ x, x = (Lib.cut l sepX).2.1 := ⟨_, rfl⟩
  obtain ⟨b, hb⟩ : ∃ x, x = (Lib.cut l sepX).2.2 := ⟨_, rfl⟩
  have hhl : h.length ≤ 1000 := by rw [hh]; have := (cut_len l sepX).1; omega
  have hrl : r.length ≤ 1000 := by rw [hr]; have := (cut_len l sepX).2; omega
  obtain ⟨m, hm⟩ : ∃ x, x = pL l := ⟨_, rfl⟩
  have hml : m.length ≤ 1000 := by
    rw [hm]; unfold pL
    split
    · rw [← hr]; exact hrl
    · exact hll
  obtain ⟨c, hc⟩ : ∃ x, x = pC l := ⟨_, rfl⟩
  have hcb : c ≤ 100 := by rw [hc]; exact pC_le l
  obtain ⟨a, ha⟩ : ∃ x, x = pA l := ⟨_, rfl⟩
  have hab : a ≤ 1099511627776 := by rw [ha]; unfold pA amt; exact amtN_le _
  obtain ⟨S1, hS1⟩ : ∃ S, S = txtB (Lib.cut m [32]).1 := ⟨_, rfl⟩
  obtain ⟨S2, hS2⟩ : ∃ S, S = txtB (Lib.cut m [32]).2.1 := ⟨_, rfl⟩
  obtain ⟨b2, hb2⟩ : ∃ x, x = (Lib.cut m [32]).2.2 := ⟨_, rfl⟩
  have hS1s : S1.size ≤ 1000 := by rw [hS1, txtB_size]; have := (cut_len m [32]).1; omega
  obtain ⟨u, hu⟩ : ∃ x, x = pU l := ⟨_, rfl⟩
  have hun : u = namedU S2.data.toList := by rw [hu, hS2, txtB_list, hm]; rfl
  obtain ⟨z, hz⟩ : ∃ z : Nat, z = u.size.toNat := ⟨_, rfl⟩
  have hum : (u.size = (z : Int) ∧ z ≤ 1000000) ∧ (0 ≤ u.dim ∧ u.dim ≤ 4) := by
    rcases pU_mem l with k | k
    · rw [hz, hu, k]; decide
    · have := un_size k
      rw [← hu] at this
      omega
  have ham : a = amt S1.data.toList z := by rw [ha, hS1, txtB_list, hz, hu, hm]; rfl
  obtain ⟨N, hN⟩ : ∃ N, N = txtB u.name := ⟨_, rfl⟩
  obtain ⟨dm, hdm⟩ : ∃ x, x = u.dim := ⟨_, rfl⟩
  obtain ⟨fl, hfl⟩ : ∃ x, x = u.flag := ⟨_, rfl⟩
  obtain ⟨⟨hz1, hz2⟩, hd0, hd4⟩ := hum
  have huv : uv u = .agg #[.string N, .int .i64 dm, .int .i64 (z : Int), .bool fl] := by rw [hN, hdm, hfl, ← hz1]; rfl
  obtain ⟨y, hy⟩ : ∃ y, y = pE l := ⟨_, rfl⟩
  have hyq : y = qwhy dm (c : Int) (a : Int) := by rw [hy, hdm, hc, ha, hu]; rfl
  have ROK : Hid (y = 0 → Ending.returned (.tuple #[.agg #[.int .i64 dm, .int .i64 (c : Int), .int .i64 (a : Int)], .int .i64 0]) = .returned (.tuple #[.agg #[.int .i64 (rD l), .int .i64 (rC l), .int .i64 (rA l)], .int .i64 (rE l)])) := fun k => by
    obtain ⟨e1, e2, e3, e4⟩ := r_ok (l := l) (by rw [← hy]; exact k)
    exact ret_q (by rw [e2, hdm, hu]) (by rw [e3, hc]) (by rw [e4, ha]) e1.symm
  have RBAD : Hid (y ≠ 0 → Ending.returned (.tuple #[.agg #[.int .i64 0, .int .i64 0, .int .i64 0], .int .i64 83]) = .returned (.tuple #[.agg #[.int .i64 (rD l), .int .i64 (rC l), .int .i64 (rA l)], .int .i64 (rE l)])) := fun k => by
    obtain ⟨e1, e2, e3, e4⟩ := r_bad (l := l) (by rw [← hy]; exact k)
    exact ret_q e2.symm e3.symm e4.symm e1.symm
  rw [← hl]
  have hcase : (b = true ∧ c = pk h ∧ m = r) ∨ (b = false ∧ c = 1 ∧ m = l) := by
    cases hbb : b with
    | true =>
      have := pC_many (l := l) (by rw [← hb]; exact hbb)
      exact .inl ⟨rfl, by rw [hc, this.1, hh], by rw [hm, this.2, hr]⟩
    | false =>
      have := pC_one (l := l) (by rw [← hb]; exact hbb)
      exact .inr ⟨rfl, by rw [hc, this.1], by rw [hm, this.2]⟩
  have CT0 : Hid (∀ w', Below w.heap.size w w' → Calls Tryz.prog 74 #[.string s, .string ⟨#[32, 120, 32]⟩] w' fun e w2 => e = .returned (.tuple #[.string (txtB h), .string (txtB r), .bool b]) ∧ Below w'.heap.size w' w2) := fun w' hbb => by
    rw [hh, hr, hb]; exact cutQ_v s ⟨#[32, 120, 32]⟩ l sepX w' hs (he.mx.below hbb) hl rfl
  have CT1 : ∀ t : ByteArray, t.data.toList = m → t.size ≤ 1000 → ∀ w', Below w.heap.size w w' → Calls Tryz.prog 74 #[.string t, .string ⟨#[32]⟩] w' fun e w2 => e = .returned (.tuple #[.string S1, .string S2, .bool b2]) ∧ Below w'.heap.size w' w2 := fun t ht hts w' hbb => by
    rw [hS1, hS2, hb2]; exact cutQ_v t ⟨#[32]⟩ m [32] w' hts (he.mx.below hbb) ht.symm rfl
  have PKC : Hid (∀ w', Calls Tryz.prog 75 #[.string (txtB h)] w' fun e w2 => e = .returned (.int .i64 ((pk h : Nat) : Int)) ∧ Below w'.heap.size w' w2) := fun w' => by
    have := packages_v (txtB h) w' (by rw [txtB_size]; omega)
    rwa [txtB_list] at this
  have NM : Hid (∀ w', Calls Tryz.prog 76 #[.string S2] w' fun e w2 => e = .returned (.agg #[.string N, .int .i64 dm, .int .i64 (z : Int), .bool fl]) ∧ Below w'.heap.size w' w2) := fun w' => by
    have := unitNamed_v S2 w'
    rwa [← hun, huv] at this
  have AMT : Hid (∀ w', Below w.heap.size w w' → Calls Tryz.prog 77 #[.agg #[.string N, .int .i64 dm, .int .i64 (z : Int), .bool fl], .string S1] w' fun e w2 => e = .returned (.int .i64 (a : Int)) ∧ Below w'.heap.size w' w2) := fun w' hbb => by
    rw [ham]; exact amount_v N dm z fl S1 hz2 hS1s w' (he.err.below hbb)
  have VAL : Hid (∀ w', Calls Tryz.prog 63 #[.agg #[.int .i64 dm, .int .i64 (c : Int), .int .i64 (a : Int)]] w' fun e w2 => e = .returned (.int .i64 y) ∧ Below w'.heap.size w' w2) := fun w' => by
    rw [hyq]; exact Validate_q dm (c : Int) (a : Int) ⟨by omega, by omega, by omega, by omega, by omega, by omega⟩ w'
  have CTR : Hid (b = true → ∀ w', Below w.heap.size w w' → Calls Tryz.prog 74 #[.string (txtB r), .string ⟨#[32]⟩] w' fun e w2 => e = .returned (.tuple #[.string S1, .string S2, .bool b2]) ∧ Below w'.heap.size w' w2) := fun k => by
    rcases hcase with ⟨_, _, k2⟩ | ⟨k1, _, _⟩
    · exact CT1 (txtB r) (by rw [txtB_list, k2]) (by rw [txtB_size]; exact hrl)
    · rw [k] at k1; cases k1
  have CTL : Hid (b = false → ∀ w', Below w.heap.size w w' → Calls Tryz.prog 74 #[.string s, .string ⟨#[32]⟩] w' fun e w2 => e = .returned (.tuple #[.string S1, .string S2, .bool b2]) ∧ Below w'.heap.size w' w2) := fun k => by
    rcases hcase with ⟨k1, _, _⟩ | ⟨_, _, k2⟩
    · rw [k] at k1; cases k1
    · exact CT1 s (by rw [← hl, k2]) hs
  have CC : Hid ((b = true → pk h = c) ∧ (b = false → c = 1)) := by
    rcases hcase with ⟨k1, k2, _⟩ | ⟨k1, k2, _⟩
    · exact ⟨fun _ => k2.symm, fun k => by rw [k1] at k; cases k⟩
    · exact ⟨fun k => (by rw [k1] at k; cases k), fun _ => k2⟩
  have B0 := below_new w (.cells #[.int .i64 0, .int .i64 0, .int .i64 0] 39)
  have x0 := heap_alloc_new w (.cells #[.int .i64 0, .int .i64 0, .int .i64 0] 39)
  obtain ⟨W1, hW1⟩ : ∃ W, W = w.alloc (.cells #[.int .i64 0, .int .i64 0, .int .i64 0] 39) := ⟨_, rfl⟩
  rw [← hW1] at B0 x0
  have HB0 := Lib.hid B0
  have XR0 := Lib.hid x0
  clear hl hll hh hr hb hhl hrl hm hml hc hcb ha hab hS1 hS2 hb2 hS1s hu hun hz ham hN hdm hfl hz1 hz2 hd0 hd4 huv hy hyq hcase CT1 B0 x0 hs he
  cases b with
  | true =>
    have CT := Lib.hid (CTR.out rfl)
    have PK := Lib.hid (CC.out.1 rfl)
    go_enter Tryz.func27, Tryz.ntmps27
    go_wp2_with fail
    rw [← hW1]
    clear hW1
    refine (CT0.out _ HB0.out).mono ?_; rintro e W2 ⟨rfl, b1⟩
    have B1 := Lib.hid (HB0.out.trans (b1.mono HB0.out.size))
    have XR1 := Lib.hid (carry XR0.out b1)
    clear b1
    go_wp2_with fail
    refine (PKC.out _).mono ?_; rintro e W3 ⟨rfl, b1⟩
    rw [PK.out]
    have BW := Lib.hid (B1.out.trans (b1.mono B1.out.size))
    have XR := Lib.hid (carry XR1.out b1)
    clear b1
    go_wp2_with fail
    refine (CT.out _ BW.out).mono ?_; rintro e W3 ⟨rfl, b3⟩
    have B3 := Lib.hid (BW.out.trans (b3.mono BW.out.size))
    have XR3 := Lib.hid (carry XR.out b3)
    clear b3
    go_wp2_with fail
    refine (NM.out _).mono ?_; rintro e W4 ⟨rfl, b4⟩
    have n5 := below_new W4 (.cells #[.string N, .int .i64 dm, .int .i64 (z : Int), .bool fl] 86)
    have x5 := heap_alloc_new W4 (.cells #[.string N, .int .i64 dm, .int .i64 (z : Int), .bool fl] 86)
    have B5 := (B3.out.trans (b4.mono B3.out.size)).trans (n5.mono (Nat.le_trans B3.out.size b4.size))
    have XR5 := Lib.hid (carry (carry XR3.out b4) n5)
    obtain ⟨gu, hgu⟩ : ∃ g, g = W4.heap.size := ⟨_, rfl⟩
    obtain ⟨W5, hW5⟩ : ∃ W, W = W4.alloc (.cells #[.string N, .int .i64 dm, .int .i64 (z : Int), .bool fl] 86) := ⟨_, rfl⟩
    unfold Hid at XR5
    rw [← hW5] at x5 B5 XR5
    rw [← hgu] at x5
    have XR5 := Lib.hid XR5
    have XU := Lib.hid x5
    have HB5 := Lib.hid B5
    have AM : Hid (∀ w', Below W5.heap.size W5 w' → Calls Tryz.prog 77 #[.agg #[.string N, .int .i64 dm, .int .i64 (z : Int), .bool fl], .string S1] w' fun e w2 => e = .returned (.int .i64 (a : Int)) ∧ Below w'.heap.size w' w2) := fun w' hb => AMT.out w' (HB5.out.trans (hb.mono HB5.out.size))
    clear b4 n5 x5 B5
    go_upto_region 7 with fail
    rw [← hW5, ← hgu]
    clear hW5 hgu
    go_cut [13] from 14 to 45 (fun v13 wx => QtyCut W5 dm (c : Int) (a : Int) v13 wx)
    case first =>
      refine wp_region_any (by kernel_rfl) ?_
      refine region_ssa [33, 34, 35, 36, 37, 38, 39, 13] (Below W5.heap.size W5) (ExtT 39 W5.heap.size) (OneR 39 W5.heap.size [.val (.pointer (some ⟨gu, 1, none⟩)), .val (.int .i64 dm), .val (.int .i64 (c : Int)), .val (.agg #[.string N, .int .i64 dm, .int .i64 (z : Int), .bool fl]), .val (.string S1), .val (.int .i64 (a : Int)), .val (.agg #[.int .i64 dm, .int .i64 (c : Int), .int .i64 (a : Int)]), .box, .any]) (OneX 39 8 13 39) (fun f => rfl) (by kernel_rfl) (by kernel_rfl) ?_ ?_ ?_ ?_ (AllFrom.below (n := 9) ?_) ?_
      · exact (Below.refl _ _).drew
      · intro f h; cases h
      · intro i v w1 w2 _ h hE; exact OneR.ext (by decide) i v w1 w2 h hE
      · intro w1 w2 hB hE; exact hB.trans hE.1
      · refine AllFrom.step (m := 8) (j := 1) rfl ?_ ?_
        · intro D f w1 hD hB hR hp hcl hX
          refine wpOp_step rfl (fun K hK => ?_)
          simp only [putAll, Act.put, List.setIfInBounds_toArray, List.set_cons_succ, List.set_cons_zero]
          go_simp
          exact hK _ _ ⟨(.pointer (some ⟨gu, 1, none⟩)), (by show _ = Act.put _ (some 33) _; simp only [putAll, Act.put, List.setIfInBounds_toArray, List.set_cons_succ, List.set_cons_zero, *]), rfl, ExtT.refl _ _ _, fun h => absurd h (no_of (D := D) (hcl 8) (by kernel_rfl) hD)⟩
        refine AllFrom.step (m := 7) (j := 2) rfl ?_ ?_
        · intro D f w1 hD hB hR hp hcl hX
          have e0 : f 33 = (.pointer (some ⟨gu, 1, none⟩)) := (hp_at hp 0 (by kernel_rfl)).2
          have x9 := carry XU.out hB
          obtain ⟨k0, k1, k2, k3, _⟩ := at_block4 x9
          refine wpOp_step rfl (fun K hK => ?_)
          simp only [putAll, Act.put, List.setIfInBounds_toArray, List.set_cons_succ, List.set_cons_zero]
          go_simp
          exact hK _ _ ⟨(.int .i64 dm), (by show _ = Act.put _ (some 34) _; simp only [putAll, Act.put, List.setIfInBounds_toArray, List.set_cons_succ, List.set_cons_zero, *]), rfl, ExtT.refl _ _ _, fun h => absurd h (no_of (D := D) (hcl 8) (by kernel_rfl) hD)⟩
        refine AllFrom.step (m := 6) (j := 3) rfl ?_ ?_
        · intro D f w1 hD hB hR hp hcl hX
          refine wpOp_step rfl (fun K hK => ?_)
          simp only [putAll, Act.put, List.setIfInBounds_toArray, List.set_cons_succ, List.set_cons_zero]
          go_simp
          exact hK _ _ ⟨(.int .i64 (c : Int)), (by show _ = Act.put _ (some 35) _; simp only [putAll, Act.put, List.setIfInBounds_toArray, List.set_cons_succ, List.set_cons_zero, *]), rfl, ExtT.refl _ _ _, fun h => absurd h (no_of (D := D) (hcl 8) (by kernel_rfl) hD)⟩
        refine AllFrom.step (m := 5) (j := 4) rfl ?_ ?_
        · intro D f w1 hD hB hR hp hcl hX
          have x9 := carry XU.out hB
          obtain ⟨k0, k1, k2, k3, _⟩ := at_block4 x9
          refine wpOp_step rfl (fun K hK => ?_)
          simp only [putAll, Act.put, List.setIfInBounds_toArray, List.set_cons_succ, List.set_cons_zero]
          go_simp
          exact hK _ _ ⟨(.agg #[.string N, .int .i64 dm, .int .i64 (z : Int), .bool fl]), (by show _ = Act.put _ (some 36) _; simp only [putAll, Act.put, List.setIfInBounds_toArray, List.set_cons_succ, List.set_cons_zero, *]), rfl, ExtT.refl _ _ _, fun h => absurd h (no_of (D := D) (hcl 8) (by kernel_rfl) hD)⟩
        refine AllFrom.step (m := 4) (j := 5) rfl ?_ ?_
        · intro D f w1 hD hB hR hp hcl hX
          refine wpOp_step rfl (fun K hK => ?_)
          simp only [putAll, Act.put, List.setIfInBounds_toArray, List.set_cons_succ, List.set_cons_zero]
          go_simp
          exact hK _ _ ⟨(.string S1), (by show _ = Act.put _ (some 37) _; simp only [putAll, Act.put, List.setIfInBounds_toArray, List.set_cons_succ, List.set_cons_zero, *]), rfl, ExtT.refl _ _ _, fun h => absurd h (no_of (D := D) (hcl 8) (by kernel_rfl) hD)⟩
        refine AllFrom.step (m := 3) (j := 6) rfl ?_ ?_
        · intro D f w1 hD hB hR hp hcl hX
          have e3 : f 36 = (.agg #[.string N, .int .i64 dm, .int .i64 (z : Int), .bool fl]) := (hp_at hp 3 (by kernel_rfl)).2
          have e4 : f 37 = (.string S1) := (hp_at hp 4 (by kernel_rfl)).2
          refine wpOp_step rfl (fun K hK => ?_)
          simp only [putAll, Act.put, List.setIfInBounds_toArray, List.set_cons_succ, List.set_cons_zero]
          go_simp
          refine (AM.out _ hB).mono ?_
          rintro e w2 ⟨rfl, hb⟩
          go_simp
          exact hK _ _ ⟨(.int .i64 (a : Int)), (by show _ = Act.put _ (some 38) _; simp only [putAll, Act.put, List.setIfInBounds_toArray, List.set_cons_succ, List.set_cons_zero, *]), rfl, ExtT.of_below hb hB.size, fun h => absurd h (no_of (D := D) (hcl 8) (by kernel_rfl) hD)⟩
        refine AllFrom.step (m := 2) (j := 7) rfl ?_ ?_
        · intro D f w1 hD hB hR hp hcl hX
          have e1 : f 34 = (.int .i64 dm) := (hp_at hp 1 (by kernel_rfl)).2
          have e2 : f 35 = (.int .i64 (c : Int)) := (hp_at hp 2 (by kernel_rfl)).2
          have e5 : f 38 = (.int .i64 (a : Int)) := (hp_at hp 5 (by kernel_rfl)).2
          refine wpOp_step rfl (fun K hK => ?_)
          simp only [putAll, Act.put, List.setIfInBounds_toArray, List.set_cons_succ, List.set_cons_zero]
          go_simp
          exact hK _ _ ⟨(.agg #[.int .i64 dm, .int .i64 (c : Int), .int .i64 (a : Int)]), (by show _ = Act.put _ (some 39) _; simp only [putAll, Act.put, List.setIfInBounds_toArray, List.set_cons_succ, List.set_cons_zero, *]), rfl, ExtT.refl _ _ _, fun h => absurd h (no_of (D := D) (hcl 8) (by kernel_rfl) hD)⟩
        refine AllFrom.step (m := 1) (j := 8) rfl ?_ ?_
        · intro D f w1 hD hB hR hp hcl hX
          refine wpOp_step rfl (fun K hK => ?_)
          simp only [putAll, Act.put, List.setIfInBounds_toArray, List.set_cons_succ, List.set_cons_zero]
          go_simp
          exact hK _ _ ⟨.pointer (some ⟨w1.heap.size, 0, none⟩), (by show _ = Act.put _ (some 13) _; simp only [putAll, Act.put, List.setIfInBounds_toArray, List.set_cons_succ, List.set_cons_zero, *]), ⟨w1.heap.size, rfl, hB.size, newBT _ _ _ _ _⟩, ExtT.of_below (below_new _ _) hB.size, fun h => absurd h (no_of (D := D) (hcl 8) (by kernel_rfl) hD)⟩
        refine AllFrom.step (m := 0) (j := 9) rfl ?_ ?_
        · intro D f w1 hD hB hR hp hcl hX
          obtain ⟨g, eg, hg, hb⟩ := (hp_at hp 7 (by kernel_rfl)).2
          have ev : f 39 = (.agg #[.int .i64 dm, .int .i64 (c : Int), .int .i64 (a : Int)]) := (hp_at hp 6 (by kernel_rfl)).2
          replace eg : f 13 = _ := eg
          obtain ⟨u0, u1, u2, q0, q1, q2, z0, z1, z2⟩ := hb.facts
          refine wpOp_step rfl (fun K hK => ?_)
          simp only [putAll, Act.put, List.setIfInBounds_toArray, List.set_cons_succ, List.set_cons_zero]
          go_simp
          exact hK _ _ ⟨undef, (by show _ = Act.put _ (none) _; simp only [putAll, Act.put, List.setIfInBounds_toArray, List.set_cons_succ, List.set_cons_zero, *]), trivial, ExtT.set3 hb hg _ _ _, fun _ => by show HoldsT _ _ (f 13) (f 39); rw [eg, ev]; exact HoldsT.new hb _ _ _⟩
        exact AllFrom.nil
      · intro D f w1 hall hB hR hX
        simp only [putAll, Act.put, List.setIfInBounds_toArray, List.set_cons_succ, List.set_cons_zero]
        go_wp2_with fail
        go_meet
        exact qty_cut hB (hX (hall 8 (by decide))) (hR 6 (by decide))
    case rest =>
      obtain ⟨gq, rfl, xq, bq⟩ := hcut
      have XR6 := carry XR5.out bq
      have B6 := Lib.hid (HB5.out.trans (bq.mono HB5.out.size))
      have XQ := Lib.hid xq
      have XR6 := Lib.hid XR6
      obtain ⟨k0, k1, k2, _⟩ := at_blockQ xq
      clear xq bq
      go_wp2_with fail
      refine (VAL.out _).mono ?_; rintro e W7 ⟨rfl, b7⟩
      have B7 := Lib.hid (B6.out.trans (b7.mono B6.out.size))
      have x7 := carry XQ.out b7
      have r7 := carry XR6.out b7
      clear k0 k1 k2 b7
      obtain ⟨k0, k1, k2, _, _, _⟩ := at_blockQ x7
      obtain ⟨u0, u1, u2, q0, q1, q2⟩ := at_blockQ r7
      by_cases hy : y = 0
      · have hyb : (y != 0) = false := by rw [hy]; rfl
        have HE := Lib.hid (ROK.out hy)
        clear hy x7 r7
        go_wp2_with fail
        refine bodyPost_ret (v := .tuple #[.agg #[.int .i64 dm, .int .i64 (c : Int), .int .i64 (a : Int)], .int .i64 0]) (by simp [results, Tryz.results27, go_sem, u0, u1, u2]) rfl ?_
        exact ⟨HE.out, below3 B7.out (Nat.le_refl _) _ _ _⟩
      · have hyb : (y != 0) = true := by simp [hy]
        have HE := Lib.hid (RBAD.out hy)
        clear hy x7 r7
        go_wp2_with fail
        refine bodyPost_ret (v := .tuple #[.agg #[.int .i64 0, .int .i64 0, .int .i64 0], .int .i64 83]) (by simp [results, Tryz.results27, go_sem, u0, u1, u2]) rfl ?_
        first
          | exact ⟨HE.out, below3 B7.out (Nat.le_refl _) _ _ _⟩
          | exact ⟨HE.out, B7.out⟩
  | false =>
    have CT := Lib.hid (CTL.out rfl)
    obtain rfl : c = 1 := CC.out.2 rfl
    go_enter Tryz.func27, Tryz.ntmps27
    go_wp2_with fail
    rw [← hW1]
    clear hW1
    refine (CT0.out _ HB0.out).mono ?_; rintro e W2 ⟨rfl, b1⟩
    have BW := Lib.hid (HB0.out.trans (b1.mono HB0.out.size))
    have XR := Lib.hid (carry XR0.out b1)
    clear b1
    go_wp2_with fail
    refine (CT.out _ BW.out).mono ?_; rintro e W3 ⟨rfl, b3⟩
    have B3 := Lib.hid (BW.out.trans (b3.mono BW.out.size))
    have XR3 := Lib.hid (carry XR.out b3)
    clear b3
    go_wp2_with fail
    refine (NM.out _).mono ?_; rintro e W4 ⟨rfl, b4⟩
    have n5 := below_new W4 (.cells #[.string N, .int .i64 dm, .int .i64 (z : Int), .bool fl] 86)
    have x5 := heap_alloc_new W4 (.cells #[.string N, .int .i64 dm, .int .i64 (z : Int), .bool fl] 86)
    have B5 := (B3.out.trans (b4.mono B3.out.size)).trans (n5.mono (Nat.le_trans B3.out.size b4.size))
    have XR5 := Lib.hid (carry (carry XR3.out b4) n5)
    obtain ⟨gu, hgu⟩ : ∃ g, g = W4.heap.size := ⟨_, rfl⟩
    obtain ⟨W5, hW5⟩ : ∃ W, W = W4.alloc (.cells #[.string N, .int .i64 dm, .int .i64 (z : Int), .bool fl] 86) := ⟨_, rfl⟩
    unfold Hid at XR5
    rw [← hW5] at x5 B5 XR5
    rw [← hgu] at x5
    have XR5 := Lib.hid XR5
    have XU := Lib.hid x5
    have HB5 := Lib.hid B5
    have AM : Hid (∀ w', Below W5.heap.size W5 w' → Calls Tryz.prog 77 #[.agg #[.string N, .int .i64 dm, .int .i64 (z : Int), .bool fl], .string S1] w' fun e w2 => e = .returned (.int .i64 (a : Int)) ∧ Below w'.heap.size w' w2) := fun w' hb => AMT.out w' (HB5.out.trans (hb.mono HB5.out.size))
    clear b4 n5 x5 B5
    go_upto_region 7 with fail
    rw [← hW5, ← hgu]
    clear hW5 hgu
    go_cut [13] from 14 to 45 (fun v13 wx => QtyCut W5 dm 1 (a : Int) v13 wx)
    case first =>
      refine wp_region_any (by kernel_rfl) ?_
      refine region_ssa [33, 34, 35, 36, 37, 38, 39, 13] (Below W5.heap.size W5) (ExtT 39 W5.heap.size) (OneR 39 W5.heap.size [.val (.pointer (some ⟨gu, 1, none⟩)), .val (.int .i64 dm), .val (.int .i64 1), .val (.agg #[.string N, .int .i64 dm, .int .i64 (z : Int), .bool fl]), .val (.string S1), .val (.int .i64 (a : Int)), .val (.agg #[.int .i64 dm, .int .i64 1, .int .i64 (a : Int)]), .box, .any]) (OneX 39 8 13 39) (fun f => rfl) (by kernel_rfl) (by kernel_rfl) ?_ ?_ ?_ ?_ (AllFrom.below (n := 9) ?_) ?_
      · exact (Below.refl _ _).drew
      · intro f h; cases h
      · intro i v w1 w2 _ h hE; exact OneR.ext (by decide) i v w1 w2 h hE
      · intro w1 w2 hB hE; exact hB.trans hE.1
      · refine AllFrom.step (m := 8) (j := 1) rfl ?_ ?_
        · intro D f w1 hD hB hR hp hcl hX
          refine wpOp_step rfl (fun K hK => ?_)
          simp only [putAll, Act.put, List.setIfInBounds_toArray, List.set_cons_succ, List.set_cons_zero]
          go_simp
          exact hK _ _ ⟨(.pointer (some ⟨gu, 1, none⟩)), (by show _ = Act.put _ (some 33) _; simp only [putAll, Act.put, List.setIfInBounds_toArray, List.set_cons_succ, List.set_cons_zero, *]), rfl, ExtT.refl _ _ _, fun h => absurd h (no_of (D := D) (hcl 8) (by kernel_rfl) hD)⟩
        refine AllFrom.step (m := 7) (j := 2) rfl ?_ ?_
        · intro D f w1 hD hB hR hp hcl hX
          have e0 : f 33 = (.pointer (some ⟨gu, 1, none⟩)) := (hp_at hp 0 (by kernel_rfl)).2
          have x9 := carry XU.out hB
          obtain ⟨k0, k1, k2, k3, _⟩ := at_block4 x9
          refine wpOp_step rfl (fun K hK => ?_)
          simp only [putAll, Act.put, List.setIfInBounds_toArray, List.set_cons_succ, List.set_cons_zero]
          go_simp
          exact hK _ _ ⟨(.int .i64 dm), (by show _ = Act.put _ (some 34) _; simp only [putAll, Act.put, List.setIfInBounds_toArray, List.set_cons_succ, List.set_cons_zero, *]), rfl, ExtT.refl _ _ _, fun h => absurd h (no_of (D := D) (hcl 8) (by kernel_rfl) hD)⟩
        refine AllFrom.step (m := 6) (j := 3) rfl ?_ ?_
        · intro D f w1 hD hB hR hp hcl hX
          refine wpOp_step rfl (fun K hK => ?_)
          simp only [putAll, Act.put, List.setIfInBounds_toArray, List.set_cons_succ, List.set_cons_zero]
          go_simp
          exact hK _ _ ⟨(.int .i64 1), (by show _ = Act.put _ (some 35) _; simp only [putAll, Act.put, List.setIfInBounds_toArray, List.set_cons_succ, List.set_cons_zero, *]), rfl, ExtT.refl _ _ _, fun h => absurd h (no_of (D := D) (hcl 8) (by kernel_rfl) hD)⟩
        refine AllFrom.step (m := 5) (j := 4) rfl ?_ ?_
        · intro D f w1 hD hB hR hp hcl hX
          have x9 := carry XU.out hB
          obtain ⟨k0, k1, k2, k3, _⟩ := at_block4 x9
          refine wpOp_step rfl (fun K hK => ?_)
          simp only [putAll, Act.put, List.setIfInBounds_toArray, List.set_cons_succ, List.set_cons_zero]
          go_simp
          exact hK _ _ ⟨(.agg #[.string N, .int .i64 dm, .int .i64 (z : Int), .bool fl]), (by show _ = Act.put _ (some 36) _; simp only [putAll, Act.put, List.setIfInBounds_toArray, List.set_cons_succ, List.set_cons_zero, *]), rfl, ExtT.refl _ _ _, fun h => absurd h (no_of (D := D) (hcl 8) (by kernel_rfl) hD)⟩
        refine AllFrom.step (m := 4) (j := 5) rfl ?_ ?_
        · intro D f w1 hD hB hR hp hcl hX
          refine wpOp_step rfl (fun K hK => ?_)
          simp only [putAll, Act.put, List.setIfInBounds_toArray, List.set_cons_succ, List.set_cons_zero]
          go_simp
          exact hK _ _ ⟨(.string S1), (by show _ = Act.put _ (some 37) _; simp only [putAll, Act.put, List.setIfInBounds_toArray, List.set_cons_succ, List.set_cons_zero, *]), rfl, ExtT.refl _ _ _, fun h => absurd h (no_of (D := D) (hcl 8) (by kernel_rfl) hD)⟩
        refine AllFrom.step (m := 3) (j := 6) rfl ?_ ?_
        · intro D f w1 hD hB hR hp hcl hX
          have e3 : f 36 = (.agg #[.string N, .int .i64 dm, .int .i64 (z : Int), .bool fl]) := (hp_at hp 3 (by kernel_rfl)).2
          have e4 : f 37 = (.string S1) := (hp_at hp 4 (by kernel_rfl)).2
          refine wpOp_step rfl (fun K hK => ?_)
          simp only [putAll, Act.put, List.setIfInBounds_toArray, List.set_cons_succ, List.set_cons_zero]
          go_simp
          refine (AM.out _ hB).mono ?_
          rintro e w2 ⟨rfl, hb⟩
          go_simp
          exact hK _ _ ⟨(.int .i64 (a : Int)), (by show _ = Act.put _ (some 38) _; simp only [putAll, Act.put, List.setIfInBounds_toArray, List.set_cons_succ, List.set_cons_zero, *]), rfl, ExtT.of_below hb hB.size, fun h => absurd h (no_of (D := D) (hcl 8) (by kernel_rfl) hD)⟩
        refine AllFrom.step (m := 2) (j := 7) rfl ?_ ?_
        · intro D f w1 hD hB hR hp hcl hX
          have e1 : f 34 = (.int .i64 dm) := (hp_at hp 1 (by kernel_rfl)).2
          have e2 : f 35 = (.int .i64 1) := (hp_at hp 2 (by kernel_rfl)).2
          have e5 : f 38 = (.int .i64 (a : Int)) := (hp_at hp 5 (by kernel_rfl)).2
          refine wpOp_step rfl (fun K hK => ?_)
          simp only [putAll, Act.put, List.setIfInBounds_toArray, List.set_cons_succ, List.set_cons_zero]
          go_simp
          exact hK _ _ ⟨(.agg #[.int .i64 dm, .int .i64 1, .int .i64 (a : Int)]), (by show _ = Act.put _ (some 39) _; simp only [putAll, Act.put, List.setIfInBounds_toArray, List.set_cons_succ, List.set_cons_zero, *]), rfl, ExtT.refl _ _ _, fun h => absurd h (no_of (D := D) (hcl 8) (by kernel_rfl) hD)⟩
        refine AllFrom.step (m := 1) (j := 8) rfl ?_ ?_
        · intro D f w1 hD hB hR hp hcl hX
          refine wpOp_step rfl (fun K hK => ?_)
          simp only [putAll, Act.put, List.setIfInBounds_toArray, List.set_cons_succ, List.set_cons_zero]
          go_simp
          exact hK _ _ ⟨.pointer (some ⟨w1.heap.size, 0, none⟩), (by show _ = Act.put _ (some 13) _; simp only [putAll, Act.put, List.setIfInBounds_toArray, List.set_cons_succ, List.set_cons_zero, *]), ⟨w1.heap.size, rfl, hB.size, newBT _ _ _ _ _⟩, ExtT.of_below (below_new _ _) hB.size, fun h => absurd h (no_of (D := D) (hcl 8) (by kernel_rfl) hD)⟩
        refine AllFrom.step (m := 0) (j := 9) rfl ?_ ?_
        · intro D f w1 hD hB hR hp hcl hX
          obtain ⟨g, eg, hg, hb⟩ := (hp_at hp 7 (by kernel_rfl)).2
          have ev : f 39 = (.agg #[.int .i64 dm, .int .i64 1, .int .i64 (a : Int)]) := (hp_at hp 6 (by kernel_rfl)).2
          replace eg : f 13 = _ := eg
          obtain ⟨u0, u1, u2, q0, q1, q2, z0, z1, z2⟩ := hb.facts
          refine wpOp_step rfl (fun K hK => ?_)
          simp only [putAll, Act.put, List.setIfInBounds_toArray, List.set_cons_succ, List.set_cons_zero]
          go_simp
          exact hK _ _ ⟨undef, (by show _ = Act.put _ (none) _; simp only [putAll, Act.put, List.setIfInBounds_toArray, List.set_cons_succ, List.set_cons_zero, *]), trivial, ExtT.set3 hb hg _ _ _, fun _ => by show HoldsT _ _ (f 13) (f 39); rw [eg, ev]; exact HoldsT.new hb _ _ _⟩
        exact AllFrom.nil
      · intro D f w1 hall hB hR hX
        simp only [putAll, Act.put, List.setIfInBounds_toArray, List.set_cons_succ, List.set_cons_zero]
        go_wp2_with fail
        go_meet
        exact qty_cut hB (hX (hall 8 (by decide))) (hR 6 (by decide))
    case rest =>
      obtain ⟨gq, rfl, xq, bq⟩ := hcut
      have XR6 := carry XR5.out bq
      have B6 := Lib.hid (HB5.out.trans (bq.mono HB5.out.size))
      have XQ := Lib.hid xq
      have XR6 := Lib.hid XR6
      obtain ⟨k0, k1, k2, _⟩ := at_blockQ xq
      clear xq bq
      go_wp2_with fail
      refine (VAL.out _).mono ?_; rintro e W7 ⟨rfl, b7⟩
      have B7 := Lib.hid (B6.out.trans (b7.mono B6.out.size))
      have x7 := carry XQ.out b7
      have r7 := carry XR6.out b7
      clear k0 k1 k2 b7
      obtain ⟨k0, k1, k2, _, _, _⟩ := at_blockQ x7
      obtain ⟨u0, u1, u2, q0, q1, q2⟩ := at_blockQ r7
      by_cases hy : y = 0
      · have hyb : (y != 0) = false := by rw [hy]; rfl
        have HE := Lib.hid (ROK.out hy)
        clear hy x7 r7
        go_wp2_with fail
        refine bodyPost_ret (v := .tuple #[.agg #[.int .i64 dm, .int .i64 1, .int .i64 (a : Int)], .int .i64 0]) (by simp [results, Tryz.results27, go_sem, u0, u1, u2]) rfl ?_
        exact ⟨HE.out, below3 B7.out (Nat.le_refl _) _ _ _⟩
      · have hyb : (y != 0) = true := by simp [hy]
        have HE := Lib.hid (RBAD.out hy)
        clear hy x7 r7
        go_wp2_with fail
        refine bodyPost_ret (v := .tuple #[.agg #[.int .i64 0, .int .i64 0, .int .i64 0], .int .i64 83]) (by simp [results, Tryz.results27, go_sem, u0, u1, u2]) rfl ?_
        first
          | exact ⟨HE.out, below3 B7.out (Nat.le_refl _) _ _ _⟩
          | exact ⟨HE.out, B7.out⟩
end Go.Proofs.YtobiepkhommeaaaGreatDoor
/- Quantities: the shortest text of an amount, Format of the code. -/
namespace Go.Proofs.YtobiepkhommeaaaGreatDoor
open Go.RowKit

theorem grow_b (w : World) (k : Nat) (os : Array Obj) : Below w.heap.size w (Go.Sort.grow (w.drewN k) os) :=
  ⟨rfl, rfl, rfl, by simp [Go.Sort.grow, World.drewN], fun b hb => by simp [Go.Sort.grow, World.drewN, Array.getElem?_append, hb]⟩
theorem itoa_num (n : Nat) : Lib.itoa (n : Int) = Lib.decDigits n := by
  unfold Lib.itoa
  rw [if_neg (by omega)]
  rfl
theorem Itoa_v (n : Nat) (hn : n ≤ 1000000) (i : Int) (hi : i = (n : Int)) (w : World) (htab : Tab w) :
    Calls Tryz.prog 66 #[.int .i64 i] w fun e w' => e = .returned (.string (txtB (Lib.decDigits n))) ∧ Below w.heap.size w w' := by
  subst hi
  refine (Tryz.strconv_Itoa (n : Int) (by omega) (by omega) w htab).mono ?_
  rintro e w' ⟨rfl, k, os, rfl⟩
  rw [itoa_num]
  exact ⟨rfl, grow_b _ _ _⟩
theorem ru_rq {a z T : Nat} (hz : 0 < z) (h : z ∣ a * T) : ru (rn (rq false a z)) (rq false a z).den T = a * T / z := by
  rw [rn_rq hz, rd_rq hz]
  have hg : 0 < Nat.gcd a z := Nat.gcd_pos_of_pos_right _ hz
  obtain ⟨u, hu⟩ := Nat.gcd_dvd_left a z
  obtain ⟨v, hv⟩ := Nat.gcd_dvd_right a z
  have eu : a / Nat.gcd a z = u := by
    conv => lhs; lhs; rw [hu]
    exact Nat.mul_div_cancel_left _ hg
  have ev : z / Nat.gcd a z = v := by
    conv => lhs; lhs; rw [hv]
    exact Nat.mul_div_cancel_left _ hg
  rw [eu, ev]
  have hv0 : 0 < v := by
    rcases Nat.eq_zero_or_pos v with k | k
    · rw [k, Nat.mul_zero] at hv; omega
    · exact k
  generalize Nat.gcd a z = g at *
  have hd : v ∣ u * T := by
    rw [hu, hv, Nat.mul_assoc] at h
    exact Nat.dvd_of_mul_dvd_mul_left hg h
  rw [ru_exact hv0 hd, hu, hv, Nat.mul_assoc, Nat.mul_div_mul_left _ _ hg]
theorem numText_len (a z : Nat) (ha : a ≤ 1099511627776) (_ : 0 < z) : (numText a z).length ≤ 100 := by
  unfold numText
  have h1 : ∀ l : List UInt8, (Lib.trimSuffix l [46]).length ≤ l.length := fun l => by
    unfold Lib.trimSuffix
    split
    · simp
    · exact Nat.le_refl _
  have h2 : ∀ l : List UInt8, (Lib.trimRightB l 48).length ≤ l.length := fun l => by
    unfold Lib.trimRightB
    rw [List.length_reverse]
    have := (List.dropWhile_sublist (fun x => x == 48) (l := l.reverse)).length_le
    rwa [List.length_reverse] at this
  have h3 := fbody_len 12 (Lib.decDigits (a * 10 ^ 12 / z))
  have h4 : (Lib.decDigits (a * 10 ^ 12 / z)).length ≤ 30 := by
    by_cases h0 : a * 10 ^ 12 / z = 0
    · rw [h0, dec_small (by omega)]; simp
    · have hb : a * 10 ^ 12 / z < 10 ^ 29 := by
        have := Nat.div_le_self (a * 10 ^ 12) z
        have : a * 10 ^ 12 ≤ 1099511627776 * 10 ^ 12 := Nat.mul_le_mul_right _ ha
        omega
      have := dec_len_le 28 _ hb
      omega
  have := h1 (Lib.trimRightB (fbody 12 (Lib.decDigits (a * 10 ^ 12 / z))) 48)
  have := h2 (fbody 12 (Lib.decDigits (a * 10 ^ 12 / z)))
  omega

set_option maxHeartbeats 4000000 in
set_option maxRecDepth 100000 in
theorem shortest_v (a z : Nat) (ha : a ≤ 1099511627776) (hz : 0 < z) (hz2 : z ∣ 1000000) (w : World) (htab : Tab w) :
    Calls Tryz.prog 65 #[.int .i64 (a : Int), .int .i64 (z : Int)] w fun e w' => e = .returned (.string (txtB (numText a z))) ∧ Below w.heap.size w w' := by
  have hzl : z ≤ 1000000 := Nat.le_of_dvd (by omega) hz2
  have hd12 : z ∣ a * 10 ^ 12 := Nat.dvd_trans hz2 (Nat.dvd_trans (by decide) (Nat.dvd_mul_left (10 ^ 12) a))
  obtain ⟨q, hq⟩ : ∃ q, q = rq false a z := ⟨_, rfl⟩
  have FR : Hid (Calls Tryz.prog 60 #[.int .i64 (a : Int), .int .i64 (z : Int)] w (ErrRes ((z : Int) = 0) q 2 w)) := by
    have h := Fraction_any (a : Int) (z : Int) (by omega) (by omega) (by omega) (by omega) w
    rwa [decide_eq_false (show ¬ (a : Int) < 0 by omega), decide_eq_false (show ¬ (z : Int) < 0 by omega), Int.natAbs_natCast, Int.natAbs_natCast, show (false != false) = false from rfl, ← hq] at h
  obtain ⟨F, hF⟩ : ∃ F, F = txtB (fbody 12 (Lib.decDigits (a * 10 ^ 12 / z))) := ⟨_, rfl⟩
  obtain ⟨G, hG⟩ : ∃ G, G = txtB (Lib.trimRightB (fbody 12 (Lib.decDigits (a * 10 ^ 12 / z))) 48) := ⟨_, rfl⟩
  obtain ⟨S, hS⟩ : ∃ S, S = txtB (numText a z) := ⟨_, rfl⟩
  have hru : ru (rn q) q.den (10 ^ 12) = a * 10 ^ 12 / z := by rw [hq]; exact ru_rq hz hd12
  have hrs : rs q = false := by rw [hq, rs_rq hz]; rfl
  have hlen : (fbody 12 (Lib.decDigits (a * 10 ^ 12 / z))).length ≤ 1000 := by
    have h3 := fbody_len 12 (Lib.decDigits (a * 10 ^ 12 / z))
    have h4 : (Lib.decDigits (a * 10 ^ 12 / z)).length ≤ 30 := by
      by_cases h0 : a * 10 ^ 12 / z = 0
      · rw [h0, dec_small (by omega)]; simp
      · have hb : a * 10 ^ 12 / z < 10 ^ 29 := by
          have := Nat.div_le_self (a * 10 ^ 12) z
          have : a * 10 ^ 12 ≤ 1099511627776 * 10 ^ 12 := Nat.mul_le_mul_right _ ha
          omega
        have := dec_len_le 28 _ hb
        omega
    omega
  have FM : Hid (∀ (w' : World) ao n ca bo m cb, Below w.heap.size w w' → RQ w' false ao n ca bo m cb q 12 → Calls Tryz.prog 61 #[.agg #[.bool false, .slice ao n ca, .slice bo m cb], .int .i64 12] w' fun e w2 => e = .returned (.string F) ∧ Below w'.heap.size w' w2) := fun w' ao n ca bo m cb hb h => by
    have h2 := qFormat_v false ao bo n ca m cb q 12 12 w' h (by omega) (htab.below hb)
    rwa [hru, show ftext false (a * 10 ^ 12 / z) 12 = fbody 12 (Lib.decDigits (a * 10 ^ 12 / z)) from if_neg (by simp), ← hF] at h2
  have TR : Hid (∀ w', Calls Tryz.prog 114 #[.string F, .string ⟨#[48]⟩] w' fun e w2 => e = .returned (.string G) ∧ Below w'.heap.size w' w2) := fun w' => by
    refine (Tryz.strings_TrimRight_one F 48 (by decide) w' (by rw [hF, txtB_size]; omega)).mono ?_
    rintro e w2 ⟨rfl, rfl⟩
    exact ⟨by rw [hF, hG, txtB_list]; rfl, Below.refl _ _⟩
  have TS : Hid (∀ w', Calls Tryz.prog 113 #[.string G, .string ⟨#[46]⟩] w' fun e w2 => e = .returned (.string S) ∧ Below w'.heap.size w' w2) := fun w' => by
    refine (Tryz.strings_TrimSuffix G ⟨#[46]⟩ w' ?_).mono ?_
    · rw [hG, txtB_size]
      have h2 : ∀ l : List UInt8, (Lib.trimRightB l 48).length ≤ l.length := fun l => by
        unfold Lib.trimRightB
        rw [List.length_reverse]
        have := (List.dropWhile_sublist (fun x => x == 48) (l := l.reverse)).length_le
        rwa [List.length_reverse] at this
      have := h2 (fbody 12 (Lib.decDigits (a * 10 ^ 12 / z)))
      omega
    · rintro e w2 ⟨rfl, rfl⟩
      exact ⟨by rw [hG, hS, txtB_list]; rfl, Below.refl _ _⟩
  have ZN : Hid (¬ (z : Int) = 0) := by unfold Hid; omega
  have HRS := Lib.hid hrs
  rw [← hS]
  have hzi : (z : Int) ≤ 1000000 := by omega
  have hai : (a : Int) ≤ 1099511627776 := by omega
  clear hzl hd12 hq hF hG hS hru hrs hlen ha hz hz2 htab
  go_enter Tryz.func65, Tryz.ntmps65
  go_wp2_with fail
  refine FR.out.mono ?_; rintro e W2 ⟨s2, a2, n2, c2, o2, m2, d2, er, rfl, cq2, hcc, b2⟩
  have her : er = 0 := by
    rcases hcc with ⟨k, _⟩ | ⟨_, k⟩
    · exact absurd k ZN.out
    · exact k
  subst her
  have hs2 : s2 = false := by rw [cq2.1, HRS.out]
  subst hs2
  have n3 := below_new W2 (.cells #[.bool false, .slice a2 n2 c2, .slice o2 m2 d2] 25)
  have B3 := b2.trans (n3.mono b2.size)
  have cq3 := (RQ.up (cq2.below n3).rq (show 2 ≤ 12 by omega) (by omega))
  obtain ⟨W3, hW3⟩ : ∃ W, W = W2.alloc (.cells #[.bool false, .slice a2 n2 c2, .slice o2 m2 d2] 25) := ⟨_, rfl⟩
  rw [← hW3] at B3 cq3
  have FC := Lib.hid (FM.out W3 _ _ _ _ _ _ B3 cq3)
  have HB3 := Lib.hid B3
  clear cq2 hcc n3 b2 cq3 B3
  go_wp2_with fail
  rw [← hW3]
  clear hW3
  refine FC.out.mono ?_; rintro e W4 ⟨rfl, b4⟩
  have B4 := Lib.hid (HB3.out.trans (b4.mono HB3.out.size))
  clear b4
  go_wp2_with fail
  refine (TR.out _).mono ?_; rintro e W5 ⟨rfl, b5⟩
  have B5 := Lib.hid (B4.out.trans (b5.mono B4.out.size))
  clear b5
  go_wp2_with fail
  refine (TS.out _).mono ?_; rintro e W6 ⟨rfl, b6⟩
  have B6 := Lib.hid (B5.out.trans (b6.mono B5.out.size))
  clear b6
  go_wp2_with fail
  go_ret
  exact ⟨rfl, B6.out⟩

/-- the text of a quantity, or none -/
def qfmt (d c a : Int) : List UInt8 := if qwhy d c a = 0 then fmtQ d c a else []
theorem qfmt_ok {d c a : Int} (h : qwhy d c a = 0) : qfmt d c a = fmtQ d c a := if_pos h
theorem qfmt_bad {d c a : Int} (h : qwhy d c a ≠ 0) : qfmt d c a = [] := if_neg h
theorem txt_app (l m : List UInt8) : txtB l ++ txtB m = txtB (l ++ m) := by
  apply bytes_ext
  simp [txtB]
theorem ret_se {s t : ByteArray} {a b : Int} (h : s = t) (k : a = b) : Ending.returned (.tuple #[.string s, .int .i64 a]) = .returned (.tuple #[.string t, .int .i64 b]) := by rw [h, k]

set_option maxHeartbeats 8000000 in
set_option maxRecDepth 100000 in
theorem QFormat_bad (d c a : Int) (hb : QB d c a) (hy : qwhy d c a ≠ 0) (w : World) :
    Calls Tryz.prog 23 #[.agg #[.int .i64 d, .int .i64 c, .int .i64 a]] w fun e w' => e = .returned (.tuple #[.string (txtB (qfmt d c a)), .int .i64 (qwhy d c a)]) ∧ Below w.heap.size w w' := by
  rw [qfmt_bad hy]
  obtain ⟨y, hyq⟩ : ∃ y, y = qwhy d c a := ⟨_, rfl⟩
  have VAL : Hid (∀ w', Calls Tryz.prog 63 #[.agg #[.int .i64 d, .int .i64 c, .int .i64 a]] w' fun e w2 => e = .returned (.int .i64 y) ∧ Below w'.heap.size w' w2) := fun w' => by rw [hyq]; exact Validate_q d c a hb w'
  rw [← hyq] at hy ⊢
  have B0 := below_new w (.cells #[.int .i64 d, .int .i64 c, .int .i64 a] 39)
  have x0 := heap_alloc_new w (.cells #[.int .i64 d, .int .i64 c, .int .i64 a] 39)
  obtain ⟨W1, hW1⟩ : ∃ W, W = w.alloc (.cells #[.int .i64 d, .int .i64 c, .int .i64 a] 39) := ⟨_, rfl⟩
  rw [← hW1] at B0 x0
  have HB0 := Lib.hid B0
  have hyb : (y != 0) = true := by simp [hy]
  clear hyq B0 hy hb x0
  go_enter Tryz.func23, Tryz.ntmps23
  go_wp2_with fail
  rw [← hW1]
  clear hW1
  refine (VAL.out _).mono ?_; rintro e W2 ⟨rfl, b2⟩
  have B2 := Lib.hid (HB0.out.trans (b2.mono HB0.out.size))
  clear b2
  go_wp2_with fail
  go_ret2
  exact ⟨rfl, B2.out⟩

set_option maxHeartbeats 8000000 in
set_option maxRecDepth 100000 in
theorem QFormat_ok (d : Int) (c a : Nat) (hy : qwhy d (c : Int) (a : Int) = 0) (w : World) (htab : Tab w) :
    Calls Tryz.prog 23 #[.agg #[.int .i64 d, .int .i64 (c : Int), .int .i64 (a : Int)]] w fun e w' => e = .returned (.tuple #[.string (txtB (fmtQ d c a)), .int .i64 0]) ∧ Below w.heap.size w w' := by
  obtain ⟨h1, h2, h3, h4, h5, h6⟩ := qwhy_zero.1 hy
  have ha := qa_le h3 h5 h6
  obtain ⟨m1, m2, m3⟩ := for_mem h1 h2 h5
  obtain ⟨z1, z2, _, _, z5, z6⟩ := un_size m1
  have hnm := (un_name m1).2.2.2
  obtain ⟨u, hu⟩ : ∃ u, u = forU d (a : Int) := ⟨_, rfl⟩
  rw [← hu] at z1 z2 z5 z6 hnm
  obtain ⟨z, hz⟩ : ∃ z : Nat, z = u.size.toNat := ⟨_, rfl⟩
  rw [← hz] at z5 z6
  obtain ⟨N, hN⟩ : ∃ N, N = txtB u.name := ⟨_, rfl⟩
  obtain ⟨dm, hdm⟩ : ∃ x, x = u.dim := ⟨_, rfl⟩
  obtain ⟨fl, hfl⟩ : ∃ x, x = u.flag := ⟨_, rfl⟩
  have huv : uv u = .agg #[.string N, .int .i64 dm, .int .i64 (z : Int), .bool fl] := by rw [hN, hdm, hfl, z6]; rfl
  obtain ⟨S, hS⟩ : ∃ S, S = txtB (numText a z) := ⟨_, rfl⟩
  have hSs : S.size ≤ 100 := by rw [hS, txtB_size]; exact numText_len a z (by omega) (by omega)
  have hNs : N.size ≤ 2 := by rw [hN, txtB_size]; exact hnm
  have VAL : Hid (∀ w', Calls Tryz.prog 63 #[.agg #[.int .i64 d, .int .i64 (c : Int), .int .i64 (a : Int)]] w' fun e w2 => e = .returned (.int .i64 0) ∧ Below w'.heap.size w' w2) := fun w' => by
    have := Validate_q d (c : Int) (a : Int) ⟨by omega, by omega, by omega, by omega, by omega, by omega⟩ w'
    rwa [hy] at this
  have UF : Hid (∀ w', Calls Tryz.prog 64 #[.int .i64 d, .int .i64 (a : Int)] w' fun e w2 => e = .returned (.agg #[.string N, .int .i64 dm, .int .i64 (z : Int), .bool fl]) ∧ Below w'.heap.size w' w2) := fun w' => by
    have := unitFor_v d (a : Int) h5 ha w'
    rwa [← hu, huv] at this
  have SH : Hid (∀ w', Below w.heap.size w w' → Calls Tryz.prog 65 #[.int .i64 (a : Int), .int .i64 (z : Int)] w' fun e w2 => e = .returned (.string S) ∧ Below w'.heap.size w' w2) := fun w' hb => by
    rw [hS]; exact shortest_v a z (by omega) (by omega) z5 w' (htab.below hb)
  obtain ⟨C, hC⟩ : ∃ C, C = txtB (Lib.decDigits c) := ⟨_, rfl⟩
  have hCs : C.size ≤ 3 := by
    rw [hC, txtB_size]
    by_cases k : c = 0
    · rw [k, dec_small (by omega)]; simp
    · have := dec_len_le 2 c (by omega); omega
  have IT : Hid (∀ w', Below w.heap.size w w' → Calls Tryz.prog 66 #[.int .i64 (c : Int)] w' fun e w2 => e = .returned (.string C) ∧ Below w'.heap.size w' w2) := fun w' hb => by
    rw [hC]; exact Itoa_v c (by omega) _ rfl w' (htab.below hb)
  have OUT1 : Hid (¬ 1 < c → S ++ ⟨#[32]⟩ ++ N = txtB (fmtQ d c a)) := fun k => by
    have e : fmtQ d (c : Int) (a : Int) = numText a z ++ 32 :: u.name := by
      unfold fmtQ qtext
      rw [Int.toNat_natCast, Int.toNat_natCast, if_neg k, ← hu, ← hz]
    rw [e, hS, hN, show (⟨#[32]⟩ : ByteArray) = txtB [32] from rfl, txt_app, txt_app, List.append_assoc]
    rfl
  have OUT2 : Hid (1 < c → C ++ ⟨#[32, 120, 32]⟩ ++ (S ++ ⟨#[32]⟩ ++ N) = txtB (fmtQ d c a)) := fun k => by
    have e : fmtQ d (c : Int) (a : Int) = Lib.decDigits c ++ sepX ++ (numText a z ++ 32 :: u.name) := by
      unfold fmtQ qtext
      rw [Int.toNat_natCast, Int.toNat_natCast, if_pos k, ← hu, ← hz]
    rw [e, hS, hN, hC, show (⟨#[32]⟩ : ByteArray) = txtB [32] from rfl, show (⟨#[32, 120, 32]⟩ : ByteArray) = txtB sepX from rfl, txt_app, txt_app, txt_app, txt_app, List.append_assoc (numText a z)]
    rfl
  have B0 := below_new w (.cells #[.int .i64 d, .int .i64 (c : Int), .int .i64 (a : Int)] 39)
  have x0 := heap_alloc_new w (.cells #[.int .i64 d, .int .i64 (c : Int), .int .i64 (a : Int)] 39)
  obtain ⟨W1, hW1⟩ : ∃ W, W = w.alloc (.cells #[.int .i64 d, .int .i64 (c : Int), .int .i64 (a : Int)] 39) := ⟨_, rfl⟩
  rw [← hW1] at B0 x0
  have HB0 := Lib.hid B0
  have X0 := Lib.hid x0
  obtain ⟨k0, k1, k2, _⟩ := at_blockQ x0
  obtain ⟨ls, hls⟩ : ∃ n, n = S.size := ⟨_, rfl⟩
  obtain ⟨ln, hln⟩ : ∃ n, n = N.size := ⟨_, rfl⟩
  obtain ⟨lc, hlc⟩ : ∃ n, n = C.size := ⟨_, rfl⟩
  have hS2 : S.size = ls := hls.symm
  have hN2 : N.size = ln := hln.symm
  have hC2 : C.size = lc := hlc.symm
  rw [← hls] at hSs
  rw [← hln] at hNs
  rw [← hlc] at hCs
  have hq1 : ls + 1 ≤ 9223372036854775807 := by omega
  have hq2 : ls + 1 + ln ≤ 9223372036854775807 := by omega
  have hq3 : lc + 3 ≤ 9223372036854775807 := by omega
  have hq4 : lc + 3 + (ls + 1 + ln) ≤ 9223372036854775807 := by omega
  clear hy h1 h2 h3 h4 h5 h6 ha m1 m2 m3 z1 z2 z5 z6 hnm hu hz hN hdm hfl huv hS hC htab x0 B0 hls hln hlc
  go_enter Tryz.func23, Tryz.ntmps23
  go_wp2_with fail
  rw [← hW1]
  clear hW1
  refine (VAL.out _).mono ?_; rintro e W2 ⟨rfl, b2⟩
  have B2 := Lib.hid (HB0.out.trans (b2.mono HB0.out.size))
  have x2 := carry X0.out b2
  have X2 := Lib.hid x2
  clear b2 k0 k1 k2
  obtain ⟨k0, k1, k2, _⟩ := at_blockQ x2
  clear x2
  go_wp2_with fail
  refine (UF.out _).mono ?_; rintro e W4 ⟨rfl, b4⟩
  have n5 := below_new W4 (.cells #[.string N, .int .i64 dm, .int .i64 (z : Int), .bool fl] 86)
  have y5 := heap_alloc_new W4 (.cells #[.string N, .int .i64 dm, .int .i64 (z : Int), .bool fl] 86)
  have B5 := (B2.out.trans (b4.mono B2.out.size)).trans (n5.mono (Nat.le_trans B2.out.size b4.size))
  have x5 := carry (carry X2.out b4) n5
  obtain ⟨W5, hW5⟩ : ∃ W, W = W4.alloc (.cells #[.string N, .int .i64 dm, .int .i64 (z : Int), .bool fl] 86) := ⟨_, rfl⟩
  obtain ⟨gu, hgu⟩ : ∃ g, g = W4.heap.size := ⟨_, rfl⟩
  rw [← hW5] at y5 B5 x5
  rw [← hgu] at y5
  have KC : Hid (∀ w', Below W5.heap.size W5 w' → w'.cell? ⟨w.heap.size, 0, none⟩ = some (.int .i64 d) ∧ w'.cell? ⟨w.heap.size, 1, none⟩ = some (.int .i64 (c : Int)) ∧ w'.cell? ⟨w.heap.size, 2, none⟩ = some (.int .i64 (a : Int)) ∧ w'.cell? ⟨gu, 0, none⟩ = some (.string N) ∧ w'.cell? ⟨gu, 1, none⟩ = some (.int .i64 dm) ∧ w'.cell? ⟨gu, 2, none⟩ = some (.int .i64 (z : Int)) ∧ w'.cell? ⟨gu, 3, none⟩ = some (.bool fl)) := fun w' hb => by
    obtain ⟨i0, i1, i2, _⟩ := at_blockQ (carry x5 hb)
    obtain ⟨j0, j1, j2, j3, _⟩ := at_block4 (carry y5 hb)
    exact ⟨i0, i1, i2, j0, j1, j2, j3⟩
  have HB5 := Lib.hid B5
  have KB : Hid (∀ w', Below W5.heap.size W5 w' → Below w.heap.size w w') := fun w' hb => HB5.out.trans (hb.mono HB5.out.size)
  clear n5 y5 B5 x5 b4 k0 k1 k2
  go_upto_region 5 with fail
  rw [← hW5, ← hgu]
  clear hW5 hgu
  refine wp_region_held_drew (S := fun w' => Below W5.heap.size W5 w') (by kernel_rfl) ((Below.refl _ _).drew) (fun hH => ?_)
  refine wpAnyH_take (i := 0) (v := (.pointer (some ⟨w.heap.size, 2, none⟩))) rfl (by kernel_rfl) (by kernel_rfl) (by kernel_rfl) (fun _ _ _ h => h) (Or.inl ⟨by kernel_rfl, ?_⟩) hH ?_
  · intro w1 hB
    go_simp
  change wpAnyH _ _ _ _ _ _ _ (Act.put _ (some 17) _) _
  try simp only [Act.put, List.setIfInBounds_toArray, List.set_cons_zero, List.set_cons_succ]
  refine wpAnyH_take (i := 1) (v := (.int .i64 (a : Int))) rfl (by kernel_rfl) (by kernel_rfl) (by kernel_rfl) (fun _ _ _ h => h) (Or.inl ⟨by kernel_rfl, ?_⟩) hH ?_
  · intro w1 hB
    obtain ⟨j0, j1, j2, l0, l1, l2, l3⟩ := KC.out _ hB
    go_simp
  change wpAnyH _ _ _ _ _ _ _ (Act.put _ (some 18) _) _
  try simp only [Act.put, List.setIfInBounds_toArray, List.set_cons_zero, List.set_cons_succ]
  refine wpAnyH_take (i := 2) (v := (.pointer (some ⟨gu, 2, none⟩))) rfl (by kernel_rfl) (by kernel_rfl) (by kernel_rfl) (fun _ _ _ h => h) (Or.inl ⟨by kernel_rfl, ?_⟩) hH ?_
  · intro w1 hB
    go_simp
  change wpAnyH _ _ _ _ _ _ _ (Act.put _ (some 19) _) _
  try simp only [Act.put, List.setIfInBounds_toArray, List.set_cons_zero, List.set_cons_succ]
  refine wpAnyH_take (i := 3) (v := (.int .i64 (z : Int))) rfl (by kernel_rfl) (by kernel_rfl) (by kernel_rfl) (fun _ _ _ h => h) (Or.inl ⟨by kernel_rfl, ?_⟩) hH ?_
  · intro w1 hB
    obtain ⟨j0, j1, j2, l0, l1, l2, l3⟩ := KC.out _ hB
    go_simp
  change wpAnyH _ _ _ _ _ _ _ (Act.put _ (some 20) _) _
  try simp only [Act.put, List.setIfInBounds_toArray, List.set_cons_zero, List.set_cons_succ]
  refine wpAnyH_take (i := 6) (v := (.pointer (some ⟨gu, 0, none⟩))) rfl (by kernel_rfl) (by kernel_rfl) (by kernel_rfl) (fun _ _ _ h => h) (Or.inl ⟨by kernel_rfl, ?_⟩) hH ?_
  · intro w1 hB
    go_simp
  change wpAnyH _ _ _ _ _ _ _ (Act.put _ (some 23) _) _
  try simp only [Act.put, List.setIfInBounds_toArray, List.set_cons_zero, List.set_cons_succ]
  refine wpAnyH_take (i := 7) (v := (.string N)) rfl (by kernel_rfl) (by kernel_rfl) (by kernel_rfl) (fun _ _ _ h => h) (Or.inl ⟨by kernel_rfl, ?_⟩) hH ?_
  · intro w1 hB
    obtain ⟨j0, j1, j2, l0, l1, l2, l3⟩ := KC.out _ hB
    go_simp
  change wpAnyH _ _ _ _ _ _ _ (Act.put _ (some 24) _) _
  try simp only [Act.put, List.setIfInBounds_toArray, List.set_cons_zero, List.set_cons_succ]
  refine wpAnyH_ready (rs := [4]) (by kernel_rfl) (by simp) ?_
  refine AllReadyH.cons rfl (fun K hK => ?_) AllReadyH.nil
  go_simp
  refine (SH.out _ (KB.out _ hH)).mono ?_
  rintro e V4 ⟨rfl, v4⟩
  try go_simp
  refine hK.out _ _ (keepB v4 hH (Nat.le_refl _)) (fun hH4 => ?_)
  clear hK K
  try simp only [Act.put, List.setIfInBounds_toArray, List.set_cons_zero, List.set_cons_succ]
  refine wpAnyH_take (i := 5) (v := (.string (S ++ ⟨#[32]⟩))) rfl (by kernel_rfl) (by kernel_rfl) (by kernel_rfl) (fun _ _ _ h => h) (Or.inl ⟨by kernel_rfl, ?_⟩) hH4 ?_
  · intro w1 hB
    go_simp
  change wpAnyH _ _ _ _ _ _ _ (Act.put _ (some 22) _) _
  try simp only [Act.put, List.setIfInBounds_toArray, List.set_cons_zero, List.set_cons_succ]
  refine wpAnyH_take (i := 8) (v := (.string (S ++ ⟨#[32]⟩ ++ N))) rfl (by kernel_rfl) (by kernel_rfl) (by kernel_rfl) (fun _ _ _ h => h) (Or.inl ⟨by kernel_rfl, ?_⟩) hH4 ?_
  · intro w1 hB
    go_simp
  change wpAnyH _ _ _ _ _ _ _ (Act.put _ (some 25) _) _
  try simp only [Act.put, List.setIfInBounds_toArray, List.set_cons_zero, List.set_cons_succ]
  refine wpAnyH_take (i := 9) (v := (.string (S ++ ⟨#[32]⟩ ++ N))) rfl (by kernel_rfl) (by kernel_rfl) (by kernel_rfl) (fun _ _ _ h => h) (Or.inl ⟨by kernel_rfl, ?_⟩) hH4 ?_
  · intro w1 hB
    go_simp
  change wpAnyH _ _ _ _ _ _ _ (Act.put _ (some 6) _) _
  try simp only [Act.put, List.setIfInBounds_toArray, List.set_cons_zero, List.set_cons_succ]
  refine wpAnyH_done (by kernel_rfl) ?_ _
  have BV := Lib.hid (KB.out _ hH4)
  obtain ⟨k0, k1, k2, l0, l1, l2, l3⟩ := KC.out _ hH4
  by_cases hc1 : 1 < c
  · have hci : (1 : Int) < (c : Int) := by omega
    have HO := Lib.hid (OUT2.out hc1)
    have IC := Lib.hid (IT.out _ BV.out)
    go_wp2_with fail
    refine IC.out.mono ?_; rintro e W7 ⟨rfl, b7⟩
    have B7 := Lib.hid (BV.out.trans (b7.mono BV.out.size))
    clear b7
    go_wp2_with fail
    go_ret2
    exact ⟨ret_se HO.out rfl, B7.out⟩
  · have hci : ¬ (1 : Int) < (c : Int) := by omega
    have HO := Lib.hid (OUT1.out hc1)
    go_wp2_with fail
    go_ret2
    exact ⟨ret_se HO.out rfl, BV.out⟩
theorem QFormat_v (d c a : Int) (hb : QB d c a) (w : World) (htab : Tab w) :
    Calls Tryz.prog 23 #[.agg #[.int .i64 d, .int .i64 c, .int .i64 a]] w fun e w' => e = .returned (.tuple #[.string (txtB (qfmt d c a)), .int .i64 (qwhy d c a)]) ∧ Below w.heap.size w w' := by
  by_cases hy : qwhy d c a = 0
  · obtain ⟨h1, h2, h3, h4, h5, h6⟩ := qwhy_zero.1 hy
    obtain ⟨c, rfl⟩ : ∃ n : Nat, c = (n : Int) := ⟨c.toNat, by omega⟩
    obtain ⟨a, rfl⟩ : ∃ n : Nat, a = (n : Int) := ⟨a.toNat, by omega⟩
    rw [qfmt_ok hy, hy]
    exact QFormat_ok d c a hy w htab
  · exact QFormat_bad d c a hb hy w
end Go.Proofs.YtobiepkhommeaaaGreatDoor
/- Quantities: the sanity check. -/
namespace Go.Proofs.YtobiepkhommeaaaGreatDoor
open Go.RowKit

def awk : List UInt8 := [54, 32, 120, 32, 51, 51, 48, 32, 109, 108]
theorem dec_330 : Lib.decDigits 330 = [51, 51, 48] := by
  repeat (rw [dec_big (by omega)])
  rw [dec_small (by omega)]
  rfl
theorem dec_6 : Lib.decDigits 6 = [54] := by
  rw [dec_small (by omega)]
  rfl
theorem awk_text : awk = qtext 6 (fbody 0 (Lib.decDigits 330)) [109, 108] := by
  have e : fbody 0 (Lib.decDigits 330) = Lib.decDigits 330 := if_neg (by omega)
  unfold qtext
  rw [if_pos (by omega), e, dec_6, dec_330]
  rfl
theorem awk_reads : rE awk = 0 ∧ rD awk = 2 ∧ rC awk = 6 ∧ rA awk = 330 := by
  obtain ⟨e1, e2, e3⟩ := qtext_reads (c := 6) (a := 330) (k := 0) (V := 330) (u := ⟨[109, 108], 2, 1, false⟩) (l := awk) awk_text (by simp [cU]) (by omega) (by omega) (by decide) (by omega) (by omega) (by omega)
  have he : pE awk = 0 := by
    unfold pE
    rw [e1, e2, e3]
    decide
  obtain ⟨f1, f2, f3, f4⟩ := r_ok he
  exact ⟨f1, by rw [f2, e1], by rw [f3, e2]; rfl, by rw [f4, e3]; rfl⟩
theorem qtot_awk : qtot 2 6 330 = 1980 := by decide

set_option maxHeartbeats 4000000 in
set_option maxRecDepth 100000 in
theorem awake8_v (w : World) (he : Env w) : Calls Tryz.prog 25 #[] w fun e w' => e = .returned (.bool true) ∧ Below w.heap.size w w' := by
  have QP : Hid (Calls Tryz.prog 27 #[.string ⟨#[54, 32, 120, 32, 51, 51, 48, 32, 109, 108]⟩] w fun e w' => e = .returned (.tuple #[.agg #[.int .i64 2, .int .i64 6, .int .i64 330], .int .i64 0]) ∧ Below w.heap.size w w') := by
    have h := QParse_v ⟨#[54, 32, 120, 32, 51, 51, 48, 32, 109, 108]⟩ w (by decide) he
    obtain ⟨e1, e2, e3, e4⟩ := awk_reads
    rw [show (⟨#[54, 32, 120, 32, 51, 51, 48, 32, 109, 108]⟩ : ByteArray).data.toList = awk from rfl, e1, e2, e3, e4] at h
    exact h
  have TC : Hid (∀ w, Calls Tryz.prog 73 #[.agg #[.int .i64 2, .int .i64 6, .int .i64 330]] w fun e w' => e = .returned (.int .i64 1980) ∧ Below w.heap.size w w') := fun w => by
    have h := Total_q 2 6 330 ⟨by omega, by omega, by omega, by omega, by omega, by omega⟩ w
    rw [qtot_awk] at h
    exact h
  clear he
  go_enter Tryz.func25, Tryz.ntmps25
  go_wp2_with fail
  refine QP.out.mono ?_; rintro e W2 ⟨rfl, b2⟩
  have n3 := below_new W2 (.cells #[.int .i64 2, .int .i64 6, .int .i64 330] 39)
  have B3 := Lib.hid (b2.trans (n3.mono b2.size))
  clear b2 n3
  go_wp2_with fail
  refine (TC.out _).mono ?_; rintro e W4 ⟨rfl, b4⟩
  have B4 := Lib.hid (B3.out.trans (b4.mono B3.out.size))
  clear b4
  go_wp2_with fail
  go_ret
  exact ⟨rfl, B4.out⟩
end Go.Proofs.YtobiepkhommeaaaGreatDoor
