import Derived.Test.YtkedgkfdmdlhoaaDoorPrdXi
import Derived.Test.YtkedgkfdmdlhoaaDoorPvD
import Derived.Test.YtkedgkfdmdlhoaaDoorSsaG
/- ProductValid for all inputs: Validate of the code against the reference's. -/
namespace Go.Proofs.YtkedgkfdmdlhoaaDoor.P9
open Go.RowKit Go.Sort C6

def StBv (p : Value → World → Prop) : Prop := ∀ v w w', p v w → Below w.heap.size w w' → p v w'
theorem StBv.val (x : Value) : StBv (kVal x) := fun _ _ _ h _ => h
def StBvL : List (Value → World → Prop) → Prop
  | [] => True
  | p :: l => StBv p ∧ StBvL l
theorem StBvL.all : ∀ {l : List (Value → World → Prop)}, StBvL l → ∀ p ∈ l, StBv p
  | [], _, p, hp => by simp at hp
  | q :: l, h, p, hp => by
    rcases List.mem_cons.1 hp with rfl | hp
    · exact h.1
    · exact h.2.all p hp
theorem RLs.stBv {l : List (Value → World → Prop)} (h : ∀ p ∈ l, StBv p) (i : Nat) (v : Value) (w w' : World) (hr : RLs l i v w) (hE : Below w.heap.size w w') : RLs l i v w' := by
  unfold RLs at hr ⊢
  rw [List.getD] at hr ⊢
  cases hg : l[i]? with
  | none => trivial
  | some p =>
    rw [hg] at hr
    exact h p (List.mem_of_getElem? hg) v w w' hr hE
def VaR3 (pP pQ : Pd) (aP aQ : Option Addr) (nP cP nQ cQ : Nat) (x1 x2 : Int) : List (Value → World → Prop) := [kVal (.agg #[.string pP.id, .string pP.co, .string pP.br, .int .i64 pP.d, .int .i64 pP.c, .int .i64 pP.a, .slice aP nP cP]), kVal (.int .i64 x1), kVal (.agg #[.string pP.id, .string pP.co, .string pP.br, .int .i64 pP.d, .int .i64 pP.c, .int .i64 pP.a, .slice aP nP cP]), kVal (.int .i64 x1), kVal (.bool true), kVal (.bool true), kVal (.agg #[.string pQ.id, .string pQ.co, .string pQ.br, .int .i64 pQ.d, .int .i64 pQ.c, .int .i64 pQ.a, .slice aQ nQ cQ]), kVal (.int .i64 x2), kVal (.agg #[.string pQ.id, .string pQ.co, .string pQ.br, .int .i64 pQ.d, .int .i64 pQ.c, .int .i64 pQ.a, .slice aQ nQ cQ]), kVal (.int .i64 x2), kVal (.bool true), kVal (.bool true), kVal (.bool true), kVal (.bool true), kVal (.bool true), kVal (.bool true)]

theorem own_rdv {w : World} {base c : Nat} {a : Option Addr} {m : List Atr} (h : w.ownsRow base 52 2 (.slice a m.length c) m.length (atv m)) : RdA w a c m := by
  obtain ⟨ao', cp', e', r', _⟩ := RdA.of_row h
  injection e' with e1 _ e3
  rw [e1, e3]; exact r'
set_option maxHeartbeats 16000000 in
set_option maxRecDepth 100000 in
theorem ProductValid_any (p0 : Pd) (ao0 : Option Addr) (l0 : List Atr) (cap0 : Nat) (ao1 : Option Addr) (ts : List Int) (cap1 : Nat) (w : World) (hr : RdA w ao0 cap0 l0) (hs : SL l0) (hqb : QB p0.d p0.c p0.a) (ht : RdZ w ao1 cap1 ts) (hev : ErrV w) :
    Calls Tryd.prog 3 #[.agg #[.string p0.id, .string p0.co, .string p0.br, .int .i64 p0.d, .int .i64 p0.c, .int .i64 p0.a, .slice ao0 l0.length cap0], .slice ao1 ts.length cap1] w fun e w' => e = .returned (.bool true) ∧ Below w.heap.size w w' := by
  obtain ⟨n0, hn0⟩ : ∃ n, n = l0.length := ⟨_, rfl⟩
  obtain ⟨n1, hn1⟩ : ∃ n, n = ts.length := ⟨_, rfl⟩
  obtain ⟨W1, hW1⟩ : ∃ W, W = w.alloc (.cells #[.string p0.id, .string p0.co, .string p0.br, .int .i64 p0.d, .int .i64 p0.c, .int .i64 p0.a, .slice ao0 n0 cap0] 26) := ⟨_, rfl⟩
  obtain ⟨g0, hg0⟩ : ∃ g, g = w.heap.size := ⟨_, rfl⟩
  obtain ⟨B, hB⟩ : ∃ B, B = w.heap.size + 1 := ⟨_, rfl⟩
  obtain ⟨W2, hW2⟩ : ∃ W, W = W1.alloc (.cells #[.slice ao1 n1 cap1, .int .i64 0] 31) := ⟨_, rfl⟩
  have b1 : Below w.heap.size w W1 := by rw [hW1]; exact below_new _ _
  have b2 : Below W1.heap.size W1 W2 := by rw [hW2]; exact below_new _ _
  have s1 : W1.heap.size = w.heap.size + 1 := by rw [hW1]; exact World.size_alloc _ _
  have s2 : W2.heap.size = w.heap.size + 2 := by rw [hW2, World.size_alloc, s1]
  have P2 : PB W2 g0 p0 (.slice ao0 n0 cap0) := (by rw [hW1, hg0]; exact PB.new _ _ _ : PB W1 g0 p0 (.slice ao0 n0 cap0)).below b2
  have b02 := keep b1 b2
  have T2 : Tap W2 B ao1 ts.length cap1 0 := by rw [hW2, hB, ← s1, ← hn1]; exact Tap.new W1 ao1 n1 cap1
  have SPC := Lib.hid (by have := spoiled9_v B ao1 cap1 ts 0 W2 T2 (ht.below b02) (fun h0 b o e => by have := ht.lt h0 b o e; omega) (by omega); rw [← hn1] at this; exact this)
  have RWP : Hid (∀ W, Below w.heap.size w W → Calls Tryd.prog 7 #[.agg #[.string p0.id, .string p0.co, .string p0.br, .int .i64 p0.d, .int .i64 p0.c, .int .i64 p0.a, .slice ao0 n0 cap0]] W fun e w' => SmpN W e w' ∧ Below W.heap.size W w') := fun W h => by rw [hn0]; exact raw9_n p0 ao0 cap0 l0 W (hr.below h) hs hqb
  have HEV := Lib.hid (fun (W : World) (h : Below w.heap.size w W) => hev.below h)
  have HP2 := Lib.hid P2
  have HB2 := Lib.hid b02
  have HG : Hid (g0 = w.heap.size ∧ B = w.heap.size + 1 ∧ W2.heap.size = w.heap.size + 2) := ⟨hg0, by omega, s2⟩
  rw [← hn0, ← hn1]
  clear hr hs hqb ht hev P2 T2 b1 b2 b02 hn0 hn1
  go_enter Tryd.func3, Tryd.ntmps3
  go_wp2_with fail
  rw [← hW1, ← hW2]
  rw [← hB]
  try rw [← hg0]
  clear hW1 hW2 hg0 s1 s2 hB
  refine SPC.out.mono ?_; rintro e w3 ⟨pQ, bQ, cQ, lQ, rfl, hoQ, hlQ, hsQ, hgQ, _⟩
  obtain ⟨nQ, hnQ⟩ : ∃ n, n = lQ.length := ⟨_, rfl⟩
  obtain ⟨W5, hW5⟩ : ∃ W, W = w3.alloc (.cells #[.string pQ.id, .string pQ.co, .string pQ.br, .int .i64 pQ.d, .int .i64 pQ.c, .int .i64 pQ.a, .slice (some ⟨bQ, 0, none⟩) nQ cQ] 26) := ⟨_, rfl⟩
  obtain ⟨gq, hgq⟩ : ∃ g, g = w3.heap.size := ⟨_, rfl⟩
  have b4 : Below w3.heap.size w3 W5 := by rw [hW5]; exact below_new _ _
  have hb3 : Below w.heap.size w w3 := by
    have h5 := HB2.out
    exact ⟨hgQ.os.trans h5.os, hgQ.tape.trans h5.tape, hgQ.output.trans h5.output, Nat.le_trans h5.size hgQ.size, fun k hk => (hgQ.block k (Nat.lt_of_lt_of_le hk h5.size) (fun e => by have := Option.some.inj e; have := HG.out.2.1; omega)).trans (h5.block k hk)⟩
  have hp3 : PB w3 g0 p0 (.slice ao0 n0 cap0) := HP2.out.grown hgQ (fun e => by have := Option.some.inj e; have := HG.out; omega)
  have HPQ : Hid (PB W5 gq pQ (.slice (some ⟨bQ, 0, none⟩) nQ cQ)) := by rw [hW5, hgq]; exact PB.new _ _ _
  have HP5 : Hid (PB W5 g0 p0 (.slice ao0 n0 cap0)) := hp3.below b4
  have HB5 : Hid (Below w.heap.size w W5) := keep hb3 b4
  have HOQ : Hid (W5.ownsRow W2.heap.size 52 2 (.slice (some ⟨bQ, 0, none⟩) lQ.length cQ) lQ.length (atv lQ) ∧ lQ.length ≤ 14 ∧ Sz pQ lQ ∧ W2.heap.size ≤ gq) := ⟨own_below hoQ b4, hlQ, hsQ, by have := hgQ.size; omega⟩
  have HNQ := Lib.hid hnQ
  rw [← hnQ]
  clear hoQ hlQ hsQ hgQ hnQ hb3 hp3 b4 SPC
  go_upto_region 2 with fail
  rw [← hW5]
  rw [← hgq]
  clear hW5 hgq
  obtain ⟨k0, k1, k2, k3, k4, k5, k6⟩ := HP5.out.cells
  obtain ⟨z0, z1, z2, z3, z4, z5, z6⟩ := HP5.out.fz
  go_wp2_with fail
  refine (RWP.out W5 HB5.out).mono ?_; rintro e w3 ⟨⟨pP, aP, lP, cP, rfl, hrP, hlP, hsP, hoP⟩, b3⟩
  clear k0 k1 k2 k3 k4 k5 k6 z0 z1 z2 z3 z4 z5 z6
  obtain ⟨nP, hnP⟩ : ∃ n, n = lP.length := ⟨_, rfl⟩
  have hp3 := HP5.out.below b3
  obtain ⟨k0, k1, k2, k3, k4, k5, k6⟩ := hp3.cells
  obtain ⟨z0, z1, z2, z3, z4, z5, z6⟩ := hp3.fz
  have hgb := set7_gb w3 g0 pP (.slice aP nP cP)
  have hsz2 := HB5.out.size
  obtain ⟨W7, hW7⟩ : ∃ W, W = set7 w3 g0 pP (.slice aP nP cP) := ⟨_, rfl⟩
  have HPP : Hid (PB W7 g0 pP (.slice aP nP cP)) := by rw [hW7]; exact set7_heap _ _ _ _ hp3
  have HPQ7 : Hid (PB W7 gq pQ (.slice (some ⟨bQ, 0, none⟩) nQ cQ)) := by rw [hW7]; exact (HPQ.out.below b3).grown hgb (fun e => by have := Option.some.inj e; have := HG.out; have := HOQ.out.2.2.2; omega)
  have HRP : Hid (RdA W7 aP cP lP) := by
    rw [hW7]
    refine hrP.grown (row := some g0) (fun h0 b o e q => ?_) hgb
    have h1 := hoP h0 b o e
    have h2 := Option.some.inj q
    have h3 := HP5.out.lt
    omega
  have HRQ : Hid (RdA W7 (some ⟨bQ, 0, none⟩) cQ lQ) := by
    rw [hW7]
    have h4 := own_below HOQ.out.1 b3
    exact own_rdv ((h4.kept hgb (.inr (fun e => no_pb h4 hp3 (Option.some.inj e))) :))
  have HB7 : Hid (Below w.heap.size w W7) := by
    rw [hW7]
    exact set7_below (keep HB5.out b3) (by have := HG.out; omega) hp3.lt _ _
  have HSP : Hid (lP.length ≤ 14 ∧ Sz pP lP ∧ nP = lP.length) := ⟨hlP, hsP, hnP⟩
  rw [← hnP]
  clear hrP hlP hsP hoP b3 hnP hp3 hgb hsz2
  go_upto_region 3 with fail
  have hfold : ((((((w3.setCell ⟨g0, 0, none⟩ (.string pP.id)).setCell ⟨g0, 1, none⟩ (.string pP.co)).setCell ⟨g0, 2, none⟩ (.string pP.br)).setCell ⟨g0, 3, none⟩ (.int .i64 pP.d)).setCell ⟨g0, 4, none⟩ (.int .i64 pP.c)).setCell ⟨g0, 5, none⟩ (.int .i64 pP.a)).setCell ⟨g0, 6, none⟩ (.slice aP nP cP) = W7 := by rw [hW7]; rfl
  try rw [hfold]
  clear hfold hW7 k0 k1 k2 k3 k4 k5 k6 z0 z1 z2 z3 z4 z5 z6
  obtain ⟨x1, hx1⟩ : ∃ x, x = perr pP lP := ⟨_, rfl⟩
  obtain ⟨x2, hx2⟩ : ∃ x, x = perr pQ lQ := ⟨_, rfl⟩
  have CVP : Hid (∀ W', Below W7.heap.size W7 W' → Calls Tryd.prog 8 #[.agg #[.string pP.id, .string pP.co, .string pP.br, .int .i64 pP.d, .int .i64 pP.c, .int .i64 pP.a, .slice aP nP cP]] W' fun e w' => e = .returned (.int .i64 x1) ∧ Below W'.heap.size W' w') := fun W' hb => by
    have := Validate_v pP aP cP lP W' (HRP.out.below hb) (by have := HSP.out.1; omega) HSP.out.2.1 (HEV.out W' (keep HB7.out hb))
    rw [← HSP.out.2.2, ← hx1] at this
    exact this
  have CRP : Hid (∀ W', Below W7.heap.size W7 W' → Calls Tryd.prog 9 #[.agg #[.string pP.id, .string pP.co, .string pP.br, .int .i64 pP.d, .int .i64 pP.c, .int .i64 pP.a, .slice aP nP cP]] W' fun e w' => e = .returned (.int .i64 x1) ∧ Below W'.heap.size W' w') := fun W' hb => by
    have := rValidate_v pP aP cP lP W' (HRP.out.below hb) (by have := HSP.out.1; omega) HSP.out.2.1
    rw [← HSP.out.2.2, ← hx1] at this
    exact this
  have CVQ : Hid (∀ W', Below W7.heap.size W7 W' → Calls Tryd.prog 8 #[.agg #[.string pQ.id, .string pQ.co, .string pQ.br, .int .i64 pQ.d, .int .i64 pQ.c, .int .i64 pQ.a, .slice (some ⟨bQ, 0, none⟩) nQ cQ]] W' fun e w' => e = .returned (.int .i64 x2) ∧ Below W'.heap.size W' w') := fun W' hb => by
    have := Validate_v pQ (some ⟨bQ, 0, none⟩) cQ lQ W' (HRQ.out.below hb) (by have := HOQ.out.2.1; omega) HOQ.out.2.2.1 (HEV.out W' (keep HB7.out hb))
    rw [← HNQ.out, ← hx2] at this
    exact this
  have CRQ : Hid (∀ W', Below W7.heap.size W7 W' → Calls Tryd.prog 9 #[.agg #[.string pQ.id, .string pQ.co, .string pQ.br, .int .i64 pQ.d, .int .i64 pQ.c, .int .i64 pQ.a, .slice (some ⟨bQ, 0, none⟩) nQ cQ]] W' fun e w' => e = .returned (.int .i64 x2) ∧ Below W'.heap.size W' w') := fun W' hb => by
    have := rValidate_v pQ (some ⟨bQ, 0, none⟩) cQ lQ W' (HRQ.out.below hb) (by have := HOQ.out.2.1; omega) HOQ.out.2.2.1
    rw [← HNQ.out, ← hx2] at this
    exact this
  obtain ⟨aQ, haQ⟩ : ∃ x, x = (some ⟨bQ, 0, none⟩ : Option Addr) := ⟨_, rfl⟩
  rw [← haQ] at CVQ CRQ HPQ7
  have pbP : ∀ {w1 : World}, Below W7.heap.size W7 w1 → PB w1 g0 pP (.slice aP nP cP) := fun h => HPP.out.below h
  have pbQ : ∀ {w1 : World}, Below W7.heap.size W7 w1 → PB w1 gq pQ (.slice aQ nQ cQ) := fun h => HPQ7.out.below h
  clear hx1 hx2 haQ
  refine wp_region_any (by kernel_rfl) ?_
  refine region_ssa [12, 13, 14, 15, 16, 17, 18, 19, 20, 21, 22, 23, 24, 25, 26, 4] (Below W7.heap.size W7) (fun w1 w2 => Below w1.heap.size w1 w2) (RLs (VaR3 pP pQ aP aQ nP cP nQ cQ x1 x2)) (fun _ _ _ => True) (fun f => rfl) (by kernel_rfl) (by kernel_rfl) ?_ ?_ ?_ ?_ (stepG_below (n := 16) ?_) ?_
  · exact (Below.refl _ _).drew
  · intro _; trivial
  · intro i v w1 w2 _ h hE; exact RLs.stBv (StBvL.all (l := VaR3 pP pQ aP aQ nP cP nQ cQ x1 x2) ⟨StBv.val _, StBv.val _, StBv.val _, StBv.val _, StBv.val _, StBv.val _, StBv.val _, StBv.val _, StBv.val _, StBv.val _, StBv.val _, StBv.val _, StBv.val _, StBv.val _, StBv.val _, StBv.val _, trivial⟩) i v w1 w2 h hE
  · intro w1 w2 hB hE; exact hB.trans (hE.mono hB.size)
  · refine AllF.step (m := 15) (j := 1) rfl ?_ ?_
    · intro D f w1 hD hB hR hp hcl hX
      obtain ⟨k0, k1, k2, k3, k4, k5, k6⟩ := (pbP hB).cells
      have HX := Lib.hid hX
      have HC := Lib.hid hcl
      have HB := Lib.hid hB
      have HD := Lib.hid hD
      clear hX hcl hB hD hR hp
      refine WpO.step rfl (fun K hK => ?_)
      simp only [putAll, Act.put, List.setIfInBounds_toArray, List.set_cons_succ, List.set_cons_zero]
      go_simp
      exact hK _ _ ⟨.agg #[.string pP.id, .string pP.co, .string pP.br, .int .i64 pP.d, .int .i64 pP.c, .int .i64 pP.a, .slice aP nP cP], (by show _ = Act.put _ (some 12) _; simp only [putAll, Act.put, List.setIfInBounds_toArray, List.set_cons_succ, List.set_cons_zero, *]; all_goals rfl), rfl, Below.refl _ _, trivial⟩
    refine AllF.step (m := 14) (j := 2) rfl ?_ ?_
    · intro D f w1 hD hB hR hp hcl hX
      have e0 : f 12 = .agg #[.string pP.id, .string pP.co, .string pP.br, .int .i64 pP.d, .int .i64 pP.c, .int .i64 pP.a, .slice aP nP cP] := (hpAt hp 0 (by kernel_rfl)).2
      have HX := Lib.hid hX
      have HC := Lib.hid hcl
      have HB := Lib.hid hB
      have HD := Lib.hid hD
      clear hX hcl hB hD hR hp
      refine WpO.step rfl (fun K hK => ?_)
      simp only [putAll, Act.put, List.setIfInBounds_toArray, List.set_cons_succ, List.set_cons_zero]
      go_simp
      refine (CVP.out w1 HB.out).mono ?_; rintro e w2 ⟨rfl, b2⟩
      go_simp
      exact hK _ _ ⟨.int .i64 x1, (by show _ = Act.put _ (some 13) _; simp only [putAll, Act.put, List.setIfInBounds_toArray, List.set_cons_succ, List.set_cons_zero, *]; all_goals rfl), rfl, b2, trivial⟩
    refine AllF.step (m := 13) (j := 3) rfl ?_ ?_
    · intro D f w1 hD hB hR hp hcl hX
      obtain ⟨k0, k1, k2, k3, k4, k5, k6⟩ := (pbP hB).cells
      have HX := Lib.hid hX
      have HC := Lib.hid hcl
      have HB := Lib.hid hB
      have HD := Lib.hid hD
      clear hX hcl hB hD hR hp
      refine WpO.step rfl (fun K hK => ?_)
      simp only [putAll, Act.put, List.setIfInBounds_toArray, List.set_cons_succ, List.set_cons_zero]
      go_simp
      exact hK _ _ ⟨.agg #[.string pP.id, .string pP.co, .string pP.br, .int .i64 pP.d, .int .i64 pP.c, .int .i64 pP.a, .slice aP nP cP], (by show _ = Act.put _ (some 14) _; simp only [putAll, Act.put, List.setIfInBounds_toArray, List.set_cons_succ, List.set_cons_zero, *]; all_goals rfl), rfl, Below.refl _ _, trivial⟩
    refine AllF.step (m := 12) (j := 4) rfl ?_ ?_
    · intro D f w1 hD hB hR hp hcl hX
      have e2 : f 14 = .agg #[.string pP.id, .string pP.co, .string pP.br, .int .i64 pP.d, .int .i64 pP.c, .int .i64 pP.a, .slice aP nP cP] := (hpAt hp 2 (by kernel_rfl)).2
      have HX := Lib.hid hX
      have HC := Lib.hid hcl
      have HB := Lib.hid hB
      have HD := Lib.hid hD
      clear hX hcl hB hD hR hp
      refine WpO.step rfl (fun K hK => ?_)
      simp only [putAll, Act.put, List.setIfInBounds_toArray, List.set_cons_succ, List.set_cons_zero]
      go_simp
      refine (CRP.out w1 HB.out).mono ?_; rintro e w2 ⟨rfl, b2⟩
      go_simp
      exact hK _ _ ⟨.int .i64 x1, (by show _ = Act.put _ (some 15) _; simp only [putAll, Act.put, List.setIfInBounds_toArray, List.set_cons_succ, List.set_cons_zero, *]; all_goals rfl), rfl, b2, trivial⟩
    refine AllF.step (m := 11) (j := 5) rfl ?_ ?_
    · intro D f w1 hD hB hR hp hcl hX
      have e1 : f 13 = .int .i64 x1 := (hpAt hp 1 (by kernel_rfl)).2
      have e3 : f 15 = .int .i64 x1 := (hpAt hp 3 (by kernel_rfl)).2
      have HX := Lib.hid hX
      have HC := Lib.hid hcl
      have HB := Lib.hid hB
      have HD := Lib.hid hD
      clear hX hcl hB hD hR hp
      refine WpO.step rfl (fun K hK => ?_)
      simp only [putAll, Act.put, List.setIfInBounds_toArray, List.set_cons_succ, List.set_cons_zero]
      go_simp
      exact hK _ _ ⟨.bool true, (by show _ = Act.put _ (some 16) _; simp only [putAll, Act.put, List.setIfInBounds_toArray, List.set_cons_succ, List.set_cons_zero, *]; all_goals rfl), rfl, Below.refl _ _, trivial⟩
    refine AllF.step (m := 10) (j := 6) rfl ?_ ?_
    · intro D f w1 hD hB hR hp hcl hX
      have e4 : f 16 = .bool true := (hpAt hp 4 (by kernel_rfl)).2
      have HX := Lib.hid hX
      have HC := Lib.hid hcl
      have HB := Lib.hid hB
      have HD := Lib.hid hD
      clear hX hcl hB hD hR hp
      refine WpO.step rfl (fun K hK => ?_)
      simp only [putAll, Act.put, List.setIfInBounds_toArray, List.set_cons_succ, List.set_cons_zero]
      go_simp
      exact hK _ _ ⟨.bool true, (by show _ = Act.put _ (some 17) _; simp only [putAll, Act.put, List.setIfInBounds_toArray, List.set_cons_succ, List.set_cons_zero, *]; all_goals rfl), rfl, Below.refl _ _, trivial⟩
    refine AllF.step (m := 9) (j := 7) rfl ?_ ?_
    · intro D f w1 hD hB hR hp hcl hX
      have e5 : f 17 = .bool true := (hpAt hp 5 (by kernel_rfl)).2
      obtain ⟨k0, k1, k2, k3, k4, k5, k6⟩ := (pbQ hB).cells
      have HX := Lib.hid hX
      have HC := Lib.hid hcl
      have HB := Lib.hid hB
      have HD := Lib.hid hD
      clear hX hcl hB hD hR hp
      refine WpO.guarded 5 17 true rfl rfl rfl (by kernel_rfl) (by kernel_rfl) e5 (fun K hK => ?_)
      simp only [putAll, Act.put, List.setIfInBounds_toArray, List.set_cons_succ, List.set_cons_zero]
      go_simp
      exact hK _ _ ⟨.agg #[.string pQ.id, .string pQ.co, .string pQ.br, .int .i64 pQ.d, .int .i64 pQ.c, .int .i64 pQ.a, .slice aQ nQ cQ], (by show _ = Act.put _ (some 18) _; simp only [putAll, Act.put, List.setIfInBounds_toArray, List.set_cons_succ, List.set_cons_zero, *]; all_goals rfl), rfl, Below.refl _ _, trivial⟩
    refine AllF.step (m := 8) (j := 8) rfl ?_ ?_
    · intro D f w1 hD hB hR hp hcl hX
      have e6 : f 18 = .agg #[.string pQ.id, .string pQ.co, .string pQ.br, .int .i64 pQ.d, .int .i64 pQ.c, .int .i64 pQ.a, .slice aQ nQ cQ] := (hpAt hp 6 (by kernel_rfl)).2
      have e5 : f 17 = .bool true := (hpAt hp 5 (by kernel_rfl)).2
      have HX := Lib.hid hX
      have HC := Lib.hid hcl
      have HB := Lib.hid hB
      have HD := Lib.hid hD
      clear hX hcl hB hD hR hp
      refine WpO.guarded 5 17 true rfl rfl rfl (by kernel_rfl) (by kernel_rfl) e5 (fun K hK => ?_)
      simp only [putAll, Act.put, List.setIfInBounds_toArray, List.set_cons_succ, List.set_cons_zero]
      go_simp
      refine (CVQ.out w1 HB.out).mono ?_; rintro e w2 ⟨rfl, b2⟩
      go_simp
      exact hK _ _ ⟨.int .i64 x2, (by show _ = Act.put _ (some 19) _; simp only [putAll, Act.put, List.setIfInBounds_toArray, List.set_cons_succ, List.set_cons_zero, *]; all_goals rfl), rfl, b2, trivial⟩
    refine AllF.step (m := 7) (j := 9) rfl ?_ ?_
    · intro D f w1 hD hB hR hp hcl hX
      have e5 : f 17 = .bool true := (hpAt hp 5 (by kernel_rfl)).2
      obtain ⟨k0, k1, k2, k3, k4, k5, k6⟩ := (pbQ hB).cells
      have HX := Lib.hid hX
      have HC := Lib.hid hcl
      have HB := Lib.hid hB
      have HD := Lib.hid hD
      clear hX hcl hB hD hR hp
      refine WpO.guarded 5 17 true rfl rfl rfl (by kernel_rfl) (by kernel_rfl) e5 (fun K hK => ?_)
      simp only [putAll, Act.put, List.setIfInBounds_toArray, List.set_cons_succ, List.set_cons_zero]
      go_simp
      exact hK _ _ ⟨.agg #[.string pQ.id, .string pQ.co, .string pQ.br, .int .i64 pQ.d, .int .i64 pQ.c, .int .i64 pQ.a, .slice aQ nQ cQ], (by show _ = Act.put _ (some 20) _; simp only [putAll, Act.put, List.setIfInBounds_toArray, List.set_cons_succ, List.set_cons_zero, *]; all_goals rfl), rfl, Below.refl _ _, trivial⟩
    refine AllF.step (m := 6) (j := 10) rfl ?_ ?_
    · intro D f w1 hD hB hR hp hcl hX
      have e8 : f 20 = .agg #[.string pQ.id, .string pQ.co, .string pQ.br, .int .i64 pQ.d, .int .i64 pQ.c, .int .i64 pQ.a, .slice aQ nQ cQ] := (hpAt hp 8 (by kernel_rfl)).2
      have e5 : f 17 = .bool true := (hpAt hp 5 (by kernel_rfl)).2
      have HX := Lib.hid hX
      have HC := Lib.hid hcl
      have HB := Lib.hid hB
      have HD := Lib.hid hD
      clear hX hcl hB hD hR hp
      refine WpO.guarded 5 17 true rfl rfl rfl (by kernel_rfl) (by kernel_rfl) e5 (fun K hK => ?_)
      simp only [putAll, Act.put, List.setIfInBounds_toArray, List.set_cons_succ, List.set_cons_zero]
      go_simp
      refine (CRQ.out w1 HB.out).mono ?_; rintro e w2 ⟨rfl, b2⟩
      go_simp
      exact hK _ _ ⟨.int .i64 x2, (by show _ = Act.put _ (some 21) _; simp only [putAll, Act.put, List.setIfInBounds_toArray, List.set_cons_succ, List.set_cons_zero, *]; all_goals rfl), rfl, b2, trivial⟩
    refine AllF.step (m := 5) (j := 11) rfl ?_ ?_
    · intro D f w1 hD hB hR hp hcl hX
      have e7 : f 19 = .int .i64 x2 := (hpAt hp 7 (by kernel_rfl)).2
      have e9 : f 21 = .int .i64 x2 := (hpAt hp 9 (by kernel_rfl)).2
      have e5 : f 17 = .bool true := (hpAt hp 5 (by kernel_rfl)).2
      have HX := Lib.hid hX
      have HC := Lib.hid hcl
      have HB := Lib.hid hB
      have HD := Lib.hid hD
      clear hX hcl hB hD hR hp
      refine WpO.guarded 5 17 true rfl rfl rfl (by kernel_rfl) (by kernel_rfl) e5 (fun K hK => ?_)
      simp only [putAll, Act.put, List.setIfInBounds_toArray, List.set_cons_succ, List.set_cons_zero]
      go_simp
      exact hK _ _ ⟨.bool true, (by show _ = Act.put _ (some 22) _; simp only [putAll, Act.put, List.setIfInBounds_toArray, List.set_cons_succ, List.set_cons_zero, *]; all_goals rfl), rfl, Below.refl _ _, trivial⟩
    refine AllF.step (m := 4) (j := 12) rfl ?_ ?_
    · intro D f w1 hD hB hR hp hcl hX
      have e5 : f 17 = .bool true := (hpAt hp 5 (by kernel_rfl)).2
      have e10 : f 22 = .bool true := (hpAt hp 10 (by kernel_rfl)).2
      have HX := Lib.hid hX
      have HC := Lib.hid hcl
      have HB := Lib.hid hB
      have HD := Lib.hid hD
      clear hX hcl hB hD hR hp
      refine WpO.step rfl (fun K hK => ?_)
      simp only [putAll, Act.put, List.setIfInBounds_toArray, List.set_cons_succ, List.set_cons_zero]
      go_simp
      exact hK _ _ ⟨.bool true, (by show _ = Act.put _ (some 23) _; simp only [putAll, Act.put, List.setIfInBounds_toArray, List.set_cons_succ, List.set_cons_zero, *]; all_goals rfl), rfl, Below.refl _ _, trivial⟩
    refine AllF.step (m := 3) (j := 13) rfl ?_ ?_
    · intro D f w1 hD hB hR hp hcl hX
      have e11 : f 23 = .bool true := (hpAt hp 11 (by kernel_rfl)).2
      have HX := Lib.hid hX
      have HC := Lib.hid hcl
      have HB := Lib.hid hB
      have HD := Lib.hid hD
      clear hX hcl hB hD hR hp
      refine WpO.step rfl (fun K hK => ?_)
      simp only [putAll, Act.put, List.setIfInBounds_toArray, List.set_cons_succ, List.set_cons_zero]
      go_simp
      exact hK _ _ ⟨.bool true, (by show _ = Act.put _ (some 24) _; simp only [putAll, Act.put, List.setIfInBounds_toArray, List.set_cons_succ, List.set_cons_zero, *]; all_goals rfl), rfl, Below.refl _ _, trivial⟩
    refine AllF.step (m := 2) (j := 14) rfl ?_ ?_
    · intro D f w1 hD hB hR hp hcl hX
      have e12 : f 24 = .bool true := (hpAt hp 12 (by kernel_rfl)).2
      have HX := Lib.hid hX
      have HC := Lib.hid hcl
      have HB := Lib.hid hB
      have HD := Lib.hid hD
      clear hX hcl hB hD hR hp
      refine WpO.guarded 12 24 true rfl rfl rfl (by kernel_rfl) (by kernel_rfl) e12 (fun K hK => ?_)
      simp only [putAll, Act.put, List.setIfInBounds_toArray, List.set_cons_succ, List.set_cons_zero]
      go_simp
      refine (awake_v w1).mono ?_; rintro e w2 ⟨rfl, b2⟩
      go_simp
      exact hK _ _ ⟨.bool true, (by show _ = Act.put _ (some 25) _; simp only [putAll, Act.put, List.setIfInBounds_toArray, List.set_cons_succ, List.set_cons_zero, *]; all_goals rfl), rfl, b2, trivial⟩
    refine AllF.step (m := 1) (j := 15) rfl ?_ ?_
    · intro D f w1 hD hB hR hp hcl hX
      have e12 : f 24 = .bool true := (hpAt hp 12 (by kernel_rfl)).2
      have e13 : f 25 = .bool true := (hpAt hp 13 (by kernel_rfl)).2
      have HX := Lib.hid hX
      have HC := Lib.hid hcl
      have HB := Lib.hid hB
      have HD := Lib.hid hD
      clear hX hcl hB hD hR hp
      refine WpO.step rfl (fun K hK => ?_)
      simp only [putAll, Act.put, List.setIfInBounds_toArray, List.set_cons_succ, List.set_cons_zero]
      go_simp
      exact hK _ _ ⟨.bool true, (by show _ = Act.put _ (some 26) _; simp only [putAll, Act.put, List.setIfInBounds_toArray, List.set_cons_succ, List.set_cons_zero, *]; all_goals rfl), rfl, Below.refl _ _, trivial⟩
    refine AllF.step (m := 0) (j := 16) rfl ?_ ?_
    · intro D f w1 hD hB hR hp hcl hX
      have e14 : f 26 = .bool true := (hpAt hp 14 (by kernel_rfl)).2
      have HX := Lib.hid hX
      have HC := Lib.hid hcl
      have HB := Lib.hid hB
      have HD := Lib.hid hD
      clear hX hcl hB hD hR hp
      refine WpO.step rfl (fun K hK => ?_)
      simp only [putAll, Act.put, List.setIfInBounds_toArray, List.set_cons_succ, List.set_cons_zero]
      go_simp
      exact hK _ _ ⟨.bool true, (by show _ = Act.put _ (some 4) _; simp only [putAll, Act.put, List.setIfInBounds_toArray, List.set_cons_succ, List.set_cons_zero, *]; all_goals rfl), rfl, Below.refl _ _, trivial⟩
    exact trivial
  · intro D f w8 hD hB hR hX
    have e4 : f 4 = .bool true := hR 15 (by decide)
    have HB8 : Hid (Below w.heap.size w w8) := keep HB7.out hB
    clear hD hB hR hX pbP pbQ
    simp only [putAll, Act.put, List.setIfInBounds_toArray, List.set_cons_succ, List.set_cons_zero, e4]
    clear e4
    go_wp2_with fail
    go_ret
    exact ⟨rfl, HB8.out⟩
end Go.Proofs.YtkedgkfdmdlhoaaDoor.P9
