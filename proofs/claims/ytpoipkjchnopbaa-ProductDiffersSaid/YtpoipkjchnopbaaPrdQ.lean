import Derived.Test.YtpoipkjchnopbaaPrdO
/- Layer 9: package product's Differences. -/
namespace Go.Proofs.Ytpoipkjchnopbaa.P9
open Go.RowKit Go.Sort C6

/-- the names in which two lists of attributes differ, sorted, each once -/
noncomputable def dnm (l o : List Atr) : List (List UInt8) := Lib.compact ((encL (nms l o ++ nms o l)).mergeSort fun x y => decide (x ≤ y))
def RP (l : List (Value → Prop)) (i : Nat) (v : Value) (_ : World) : Prop := (l.getD i (fun _ => True)) v
def pV (x : Value) : Value → Prop := fun v => v = x
def pT : Value → Prop := fun _ => True
/-- a row of names of one's own -/
def Nm (N : Nat) (ns : List ByteArray) (v : Value) (w : World) : Prop := ∃ a q c, v = .slice a q c ∧ q = ns.length ∧ w.ownsRow N 9 1 (.slice a q c) q (strs ns)
theorem Nm.below {N : Nat} {ns : List ByteArray} {v : Value} {w w' : World} (h : Nm N ns v w) (b : Below w.heap.size w w') : Nm N ns v w' := by
  obtain ⟨a, q, c, h1, h2, h3⟩ := h
  exact ⟨a, q, c, h1, h2, own_below h3 b⟩
def DfR (g2 g3 : Nat) (ao bo : Option Addr) (n ca m cb : Nat) : List (Value → Prop) := [pV (.pointer (some ⟨g2, 6, none⟩)), pV (.slice ao n ca), pV (.pointer (some ⟨g3, 6, none⟩)), pV (.slice bo m cb), pT, pV (.pointer (some ⟨g3, 6, none⟩)), pV (.slice bo m cb), pV (.pointer (some ⟨g2, 6, none⟩)), pV (.slice ao n ca), pT, pT, pT]
def DfX (N : Nat) (n1 n2 : List ByteArray) (D : Nat → Bool) (f : Nat → Value) (w : World) : Prop := (D 4 = true → D 10 = false → Nm N n1 (f 10) w) ∧ (D 9 = true → D 10 = false → Nm N n2 (f 15) w) ∧ (D 10 = true → Nm N (n1 ++ n2) (f 16) w) ∧ (D 11 = true → f 5 = f 16)

set_option maxHeartbeats 16000000 in
set_option maxRecDepth 100000 in
theorem Differences_v (p p' : Pd) (ao bo : Option Addr) (ca cb : Nat) (l o : List Atr) (w : World) (h : RdA w ao ca l) (k : RdA w bo cb o) (hl : l.length ≤ 1000) (ho : o.length ≤ 1000) (sl : AS l) (so : AS o) :
    Calls Try.prog 15 #[.agg #[.string p.id, .string p.co, .string p.br, .int .i64 p.d, .int .i64 p.c, .int .i64 p.a, .slice ao l.length ca], .agg #[.string p'.id, .string p'.co, .string p'.br, .int .i64 p'.d, .int .i64 p'.c, .int .i64 p'.a, .slice bo o.length cb]] w fun e w' => ∃ (a : Option Addr) (q c : Nat), e = .returned (.slice a q c) ∧ q = (dnm l o).length ∧ w'.ownsRow w.heap.size 9 1 (.slice a q c) q ((dnm l o).map encStr) ∧ Below w.heap.size w w' := by
  obtain ⟨i0, hi, hz0, hz1, hz2⟩ := info_parts infoStr
  obtain ⟨n, hn⟩ : ∃ n, n = l.length := ⟨_, rfl⟩
  obtain ⟨m, hm⟩ : ∃ m, m = o.length := ⟨_, rfl⟩
  have N1 : Hid (∀ w, RdA w ao ca l → RdA w bo cb o → Calls Try.prog 28 #[.slice ao n ca, .slice bo m cb] w fun e w' => ∃ (a : Option Addr) (q c : Nat), e = .returned (.slice a q c) ∧ q = (nms l o).length ∧ w'.ownsRow (w.heap.size + 1) 9 1 (.slice a q c) q (strs (nms l o)) ∧ Below w.heap.size w w') := fun w h k => by
    rw [hn, hm]; exact namesOutside_v ao bo ca cb l o w h k hl ho sl so
  have N2 : Hid (∀ w, RdA w ao ca l → RdA w bo cb o → Calls Try.prog 28 #[.slice bo m cb, .slice ao n ca] w fun e w' => ∃ (a : Option Addr) (q c : Nat), e = .returned (.slice a q c) ∧ q = (nms o l).length ∧ w'.ownsRow (w.heap.size + 1) 9 1 (.slice a q c) q (strs (nms o l)) ∧ Below w.heap.size w w') := fun w h k => by
    rw [hn, hm]; exact namesOutside_v bo ao cb ca o l w k h ho hl so sl
  have HL1 : Hid ((nms l o).length ≤ 1000 ∧ (nms o l).length ≤ 1000) := ⟨Nat.le_trans (nms_le _ _) hl, Nat.le_trans (nms_le _ _) ho⟩
  obtain ⟨W1, hW1⟩ : ∃ W, W = w.alloc (.cells #[.string p.id, .string p.co, .string p.br, .int .i64 p.d, .int .i64 p.c, .int .i64 p.a, .slice ao n ca] 26) := ⟨_, rfl⟩
  have P1 : PB W1 w.heap.size p (.slice ao n ca) := by rw [hW1]; exact PB.new _ _ _
  have b1 : Below w.heap.size w W1 := by rw [hW1]; exact below_new _ _
  have s1 : W1.heap.size = w.heap.size + 1 := by rw [hW1]; exact World.size_alloc _ _
  obtain ⟨W2, hW2⟩ : ∃ W, W = W1.alloc (.cells #[.string p'.id, .string p'.co, .string p'.br, .int .i64 p'.d, .int .i64 p'.c, .int .i64 p'.a, .slice bo m cb] 26) := ⟨_, rfl⟩
  have P2 : PB W2 w.heap.size p (.slice ao n ca) := by rw [hW2]; exact P1.below (below_new _ _)
  have Q2 : PB W2 (w.heap.size + 1) p' (.slice bo m cb) := by rw [hW2, ← s1]; exact PB.new _ _ _
  have b2 : Below w.heap.size w W2 := by rw [hW2]; exact keep b1 (below_new _ _)
  have HP2 := Lib.hid P2
  have HQ2 := Lib.hid Q2
  have HR2 := Lib.hid (h.below b2)
  have HK2 := Lib.hid (k.below b2)
  have HB2 := Lib.hid b2
  obtain ⟨N, hN⟩ : ∃ N, N = W2.heap.size := ⟨_, rfl⟩
  have HN := Lib.hid hN
  obtain ⟨G, hG⟩ : ∃ G, G = w.heap.size := ⟨_, rfl⟩
  obtain ⟨Ns, hNs⟩ : ∃ x, x = nms l o := ⟨_, rfl⟩
  obtain ⟨Ms, hMs⟩ : ∃ x, x = nms o l := ⟨_, rfl⟩
  have HD : Hid (dnm l o = Lib.compact ((encL (Ns ++ Ms)).mergeSort fun x y => decide (x ≤ y))) := by rw [hNs, hMs]; rfl
  rw [← hNs, ← hMs] at HL1
  rw [← hNs] at N1
  rw [← hMs] at N2
  rw [← hn, ← hm]
  clear h k hl ho sl so hn hm P1 b1 s1 P2 Q2 b2 hNs hMs
  go_enter Try.func15, Try.ntmps15
  go_wp2_with fail
  rw [← hW1, ← hW2]
  clear hW1 hW2 hG
  have hsz : ∀ {w1 : World}, Below N W2 w1 → N ≤ w1.heap.size := fun h => by have := h.size; have := HN.out; omega
  have pb2 : ∀ {w1 : World}, Below N W2 w1 → PB w1 w.heap.size p (.slice ao n ca) := fun h => HP2.out.below (by rw [← HN.out]; exact h)
  have pb3 : ∀ {w1 : World}, Below N W2 w1 → PB w1 (w.heap.size + 1) p' (.slice bo m cb) := fun h => HQ2.out.below (by rw [← HN.out]; exact h)
  have rd2 : ∀ {w1 : World}, Below N W2 w1 → RdA w1 ao ca l := fun h => HR2.out.below (by rw [← HN.out]; exact h)
  have rd3 : ∀ {w1 : World}, Below N W2 w1 → RdA w1 bo cb o := fun h => HK2.out.below (by rw [← HN.out]; exact h)
  clear hN
  refine wp_region_any (by kernel_rfl) ?_
  refine region_ssa [6, 7, 8, 9, 10, 11, 12, 13, 14, 15, 16, 5] (Below N W2) (Below N) (RP (DfR w.heap.size (w.heap.size + 1) ao bo n ca m cb)) (DfX N Ns Ms) (fun f => rfl) (by kernel_rfl) (by kernel_rfl) ?_ ?_ ?_ ?_ (AllF.below (n := 12) ?_) ?_
  · exact (Below.refl _ _).drew
  · intro f; exact ⟨fun h => (by cases h), fun h => (by cases h), fun h => (by cases h), fun h => (by cases h)⟩
  · intro i v w1 w2 _ h _; exact h
  · intro w1 w2 hB hE; exact hB.trans hE
  · refine AllF.step (m := 11) (j := 1) rfl ?_ ?_
    · intro D f w1 hD hB hR hp hcl hX
      have HX := Lib.hid hX
      have HC := Lib.hid hcl
      have HB := Lib.hid hB
      have HD := Lib.hid hD
      clear hX hcl hB hD hR hp
      refine wpOp_step rfl (fun K hK => ?_)
      simp only [putAll, Act.put, List.setIfInBounds_toArray, List.set_cons_succ, List.set_cons_zero]
      go_simp
      exact hK _ _ ⟨.pointer (some ⟨w.heap.size, 6, none⟩), (by show _ = Act.put _ (some 6) _; simp only [putAll, Act.put, List.setIfInBounds_toArray, List.set_cons_succ, List.set_cons_zero, *]; all_goals rfl), rfl, Below.refl _ _, ⟨HX.out.1, HX.out.2.1, HX.out.2.2.1, HX.out.2.2.2⟩⟩
    refine AllF.step (m := 10) (j := 2) rfl ?_ ?_
    · intro D f w1 hD hB hR hp hcl hX
      have e0 : f 6 = .pointer (some ⟨w.heap.size, 6, none⟩) := (hpAt hp 0 (by kernel_rfl)).2
      have k6 := (pb2 hB).cells.2.2.2.2.2.2
      have HX := Lib.hid hX
      have HC := Lib.hid hcl
      have HB := Lib.hid hB
      have HD := Lib.hid hD
      clear hX hcl hB hD hR hp
      refine wpOp_step rfl (fun K hK => ?_)
      simp only [putAll, Act.put, List.setIfInBounds_toArray, List.set_cons_succ, List.set_cons_zero]
      go_simp
      exact hK _ _ ⟨.slice ao n ca, (by show _ = Act.put _ (some 7) _; simp only [putAll, Act.put, List.setIfInBounds_toArray, List.set_cons_succ, List.set_cons_zero, *]; all_goals rfl), rfl, Below.refl _ _, ⟨HX.out.1, HX.out.2.1, HX.out.2.2.1, HX.out.2.2.2⟩⟩
    refine AllF.step (m := 9) (j := 3) rfl ?_ ?_
    · intro D f w1 hD hB hR hp hcl hX
      have HX := Lib.hid hX
      have HC := Lib.hid hcl
      have HB := Lib.hid hB
      have HD := Lib.hid hD
      clear hX hcl hB hD hR hp
      refine wpOp_step rfl (fun K hK => ?_)
      simp only [putAll, Act.put, List.setIfInBounds_toArray, List.set_cons_succ, List.set_cons_zero]
      go_simp
      exact hK _ _ ⟨.pointer (some ⟨w.heap.size + 1, 6, none⟩), (by show _ = Act.put _ (some 8) _; simp only [putAll, Act.put, List.setIfInBounds_toArray, List.set_cons_succ, List.set_cons_zero, *]; all_goals rfl), rfl, Below.refl _ _, ⟨HX.out.1, HX.out.2.1, HX.out.2.2.1, HX.out.2.2.2⟩⟩
    refine AllF.step (m := 8) (j := 4) rfl ?_ ?_
    · intro D f w1 hD hB hR hp hcl hX
      have e0 : f 8 = .pointer (some ⟨w.heap.size + 1, 6, none⟩) := (hpAt hp 2 (by kernel_rfl)).2
      have k6 := (pb3 hB).cells.2.2.2.2.2.2
      have HX := Lib.hid hX
      have HC := Lib.hid hcl
      have HB := Lib.hid hB
      have HD := Lib.hid hD
      clear hX hcl hB hD hR hp
      refine wpOp_step rfl (fun K hK => ?_)
      simp only [putAll, Act.put, List.setIfInBounds_toArray, List.set_cons_succ, List.set_cons_zero]
      go_simp
      exact hK _ _ ⟨.slice bo m cb, (by show _ = Act.put _ (some 9) _; simp only [putAll, Act.put, List.setIfInBounds_toArray, List.set_cons_succ, List.set_cons_zero, *]; all_goals rfl), rfl, Below.refl _ _, ⟨HX.out.1, HX.out.2.1, HX.out.2.2.1, HX.out.2.2.2⟩⟩
    refine AllF.step (m := 7) (j := 5) rfl ?_ ?_
    · intro D f w1 hD hB hR hp hcl hX
      have e1 : f 7 = .slice ao n ca := (hpAt hp 1 (by kernel_rfl)).2
      have e3 : f 9 = .slice bo m cb := (hpAt hp 3 (by kernel_rfl)).2
      have RA := rd2 hB
      have RB := rd3 hB
      have hlt := hsz hB
      have HX := Lib.hid hX
      have HC := Lib.hid hcl
      have HB := Lib.hid hB
      have HD := Lib.hid hD
      clear hX hcl hB hD hR hp
      refine wpOp_step rfl (fun K hK => ?_)
      simp only [putAll, Act.put, List.setIfInBounds_toArray, List.set_cons_succ, List.set_cons_zero]
      go_simp
      refine (N1.out w1 RA RB).mono ?_; rintro e w2 ⟨a, q, c, rfl, hq, hown, hb⟩
      go_simp
      have hN : Nm N Ns (.slice a q c) w2 := ⟨a, q, c, rfl, hq, own_mono' hown (by omega)⟩
      exact hK _ _ ⟨.slice a q c, (by show _ = Act.put _ (some 10) _; simp only [putAll, Act.put, List.setIfInBounds_toArray, List.set_cons_succ, List.set_cons_zero, *]; all_goals rfl), trivial, hb.mono hlt, ⟨fun _ _ => hN, fun h => absurd h (noOf (D := D) (HC.out 9) (by kernel_rfl) HD.out), fun h => absurd h (noOf (D := D) (HC.out 10) (by kernel_rfl) HD.out), fun h => absurd h (noOf (D := D) (HC.out 11) (by kernel_rfl) HD.out)⟩⟩
    refine AllF.step (m := 6) (j := 6) rfl ?_ ?_
    · intro D f w1 hD hB hR hp hcl hX
      have HX := Lib.hid hX
      have HC := Lib.hid hcl
      have HB := Lib.hid hB
      have HD := Lib.hid hD
      clear hX hcl hB hD hR hp
      refine wpOp_step rfl (fun K hK => ?_)
      simp only [putAll, Act.put, List.setIfInBounds_toArray, List.set_cons_succ, List.set_cons_zero]
      go_simp
      exact hK _ _ ⟨.pointer (some ⟨w.heap.size + 1, 6, none⟩), (by show _ = Act.put _ (some 11) _; simp only [putAll, Act.put, List.setIfInBounds_toArray, List.set_cons_succ, List.set_cons_zero, *]; all_goals rfl), rfl, Below.refl _ _, ⟨HX.out.1, HX.out.2.1, HX.out.2.2.1, HX.out.2.2.2⟩⟩
    refine AllF.step (m := 5) (j := 7) rfl ?_ ?_
    · intro D f w1 hD hB hR hp hcl hX
      have e0 : f 11 = .pointer (some ⟨w.heap.size + 1, 6, none⟩) := (hpAt hp 5 (by kernel_rfl)).2
      have k6 := (pb3 hB).cells.2.2.2.2.2.2
      have HX := Lib.hid hX
      have HC := Lib.hid hcl
      have HB := Lib.hid hB
      have HD := Lib.hid hD
      clear hX hcl hB hD hR hp
      refine wpOp_step rfl (fun K hK => ?_)
      simp only [putAll, Act.put, List.setIfInBounds_toArray, List.set_cons_succ, List.set_cons_zero]
      go_simp
      exact hK _ _ ⟨.slice bo m cb, (by show _ = Act.put _ (some 12) _; simp only [putAll, Act.put, List.setIfInBounds_toArray, List.set_cons_succ, List.set_cons_zero, *]; all_goals rfl), rfl, Below.refl _ _, ⟨HX.out.1, HX.out.2.1, HX.out.2.2.1, HX.out.2.2.2⟩⟩
    refine AllF.step (m := 4) (j := 8) rfl ?_ ?_
    · intro D f w1 hD hB hR hp hcl hX
      have HX := Lib.hid hX
      have HC := Lib.hid hcl
      have HB := Lib.hid hB
      have HD := Lib.hid hD
      clear hX hcl hB hD hR hp
      refine wpOp_step rfl (fun K hK => ?_)
      simp only [putAll, Act.put, List.setIfInBounds_toArray, List.set_cons_succ, List.set_cons_zero]
      go_simp
      exact hK _ _ ⟨.pointer (some ⟨w.heap.size, 6, none⟩), (by show _ = Act.put _ (some 13) _; simp only [putAll, Act.put, List.setIfInBounds_toArray, List.set_cons_succ, List.set_cons_zero, *]; all_goals rfl), rfl, Below.refl _ _, ⟨HX.out.1, HX.out.2.1, HX.out.2.2.1, HX.out.2.2.2⟩⟩
    refine AllF.step (m := 3) (j := 9) rfl ?_ ?_
    · intro D f w1 hD hB hR hp hcl hX
      have e0 : f 13 = .pointer (some ⟨w.heap.size, 6, none⟩) := (hpAt hp 7 (by kernel_rfl)).2
      have k6 := (pb2 hB).cells.2.2.2.2.2.2
      have HX := Lib.hid hX
      have HC := Lib.hid hcl
      have HB := Lib.hid hB
      have HD := Lib.hid hD
      clear hX hcl hB hD hR hp
      refine wpOp_step rfl (fun K hK => ?_)
      simp only [putAll, Act.put, List.setIfInBounds_toArray, List.set_cons_succ, List.set_cons_zero]
      go_simp
      exact hK _ _ ⟨.slice ao n ca, (by show _ = Act.put _ (some 14) _; simp only [putAll, Act.put, List.setIfInBounds_toArray, List.set_cons_succ, List.set_cons_zero, *]; all_goals rfl), rfl, Below.refl _ _, ⟨HX.out.1, HX.out.2.1, HX.out.2.2.1, HX.out.2.2.2⟩⟩
    refine AllF.step (m := 2) (j := 10) rfl ?_ ?_
    · intro D f w1 hD hB hR hp hcl hX
      have e1 : f 12 = .slice bo m cb := (hpAt hp 6 (by kernel_rfl)).2
      have e3 : f 14 = .slice ao n ca := (hpAt hp 8 (by kernel_rfl)).2
      have RA := rd2 hB
      have RB := rd3 hB
      have hlt := hsz hB
      have HX := Lib.hid hX
      have HC := Lib.hid hcl
      have HB := Lib.hid hB
      have HD := Lib.hid hD
      clear hX hcl hB hD hR hp
      refine wpOp_step rfl (fun K hK => ?_)
      simp only [putAll, Act.put, List.setIfInBounds_toArray, List.set_cons_succ, List.set_cons_zero]
      go_simp
      refine (N2.out w1 RA RB).mono ?_; rintro e w2 ⟨a, q, c, rfl, hq, hown, hb⟩
      go_simp
      have hN : Nm N Ms (.slice a q c) w2 := ⟨a, q, c, rfl, hq, own_mono' hown (by omega)⟩
      exact hK _ _ ⟨.slice a q c, (by show _ = Act.put _ (some 15) _; simp only [putAll, Act.put, List.setIfInBounds_toArray, List.set_cons_succ, List.set_cons_zero, *]; all_goals rfl), trivial, hb.mono hlt, ⟨fun h h' => (HX.out.1 h h').below hb, fun _ _ => hN, fun h => absurd h (noOf (D := D) (HC.out 10) (by kernel_rfl) HD.out), fun h => absurd h (noOf (D := D) (HC.out 11) (by kernel_rfl) HD.out)⟩⟩
    refine AllF.step (m := 1) (j := 11) rfl ?_ ?_
    · intro D f w1 hD hB hR hp hcl hX
      have h4 : D 4 = true := (hpAt hp 4 (by kernel_rfl)).1
      have h9 : D 9 = true := (hpAt hp 9 (by kernel_rfl)).1
      obtain ⟨a1, q1, c1, e10, hq1, ho1⟩ := hX.1 h4 hD
      obtain ⟨a2, q2, c2, e15, hq2, ho2⟩ := hX.2.1 h9 hD
      have hlt := hsz hB
      have hle := HL1.out
      have hcap1 : q1 ≤ c1 := by
        rcases ho1.2 with ⟨e, h0⟩ | ⟨g, cap', cur, e, _, _, hnc, _, _, _⟩
        · cases e; omega
        · cases e; exact hnc
      have HX := Lib.hid hX
      have HC := Lib.hid hcl
      have HB := Lib.hid hB
      have HD := Lib.hid hD
      clear hX hcl hB hD hR hp
      refine wpOp_step rfl (fun K hK => ?_)
      simp only [putAll, Act.put, List.setIfInBounds_toArray, List.set_cons_succ, List.set_cons_zero]
      rw [if_pos (by simp [Region.wanted])]
      rcases ho2.2 with ⟨e, h0⟩ | ⟨g, cap', cur, e, _⟩
      · cases e
        refine wp_append_none (.tmp 10) (.tmp 15) 39 (by rfl) 9 i0 Try.underlying39 hi a1 q1 c1 hcap1 (by simp [Act.eval, e10]) (by simp [Act.eval, e15]) ?_
        have hM : Ms = [] := List.eq_nil_of_length_eq_zero (by omega)
        have hN : Nm N (Ns ++ Ms) (.slice a1 q1 c1) w1 := ⟨a1, q1, c1, rfl, by rw [hM, List.append_nil]; exact hq1, by rw [hM, List.append_nil]; exact ho1⟩
        exact hK _ _ ⟨.slice a1 q1 c1, (by show _ = Act.put _ (some 16) _; simp only [putAll, Act.put, List.setIfInBounds_toArray, List.set_cons_succ, *]; all_goals rfl), trivial, Below.refl _ _, ⟨fun _ h => absurd (show true = false from h) (by decide), fun _ h => absurd (show true = false from h) (by decide), fun _ => hN, fun h => absurd h (noOf (D := D) (HC.out 11) (by kernel_rfl) HD.out)⟩⟩
      · cases e
        refine wp_append_own w1 (.tmp 10) (.tmp 15) 39 (by rfl) N 9 i0 (.string ByteArray.empty) 1 16 Try.underlying39 hi hz0 hz1 hz2 rfl (by decide) (.slice a1 q1 c1) q1 (strs Ns) (by simp [Act.eval, e10]) ho1 ⟨g, 0, none⟩ q2 c2 (strs Ms) (by simp [Act.eval, e15]) (by rw [strs_length]; omega) (ho2.cells (g := g) rfl) (by intro u hu; unfold strs at hu; obtain ⟨x, _, rfl⟩ := List.mem_map.1 hu; rfl) (by unfold maxLen; omega) (by omega) hlt ?_; intro v4 w4 hown4 hgr4 _; obtain ⟨a4, c4, rfl⟩ := of_row_n hown4
        have hN : Nm N (Ns ++ Ms) (.slice a4 (q1 + q2) c4) w4 := ⟨a4, q1 + q2, c4, rfl, by rw [List.length_append, hq1, hq2], by unfold strs at hown4 ⊢; rw [List.map_append]; exact hown4⟩
        have hE : Below N w1 w4 := (Below.refl N w1).grown hgr4 hlt (fun k e => (ho1.lt k e).1)
        exact hK _ _ ⟨.slice a4 (q1 + q2) c4, (by show _ = Act.put _ (some 16) _; simp only [putAll, Act.put, List.setIfInBounds_toArray, List.set_cons_succ, List.set_cons_zero, *]; all_goals rfl), trivial, hE, ⟨fun _ h => absurd (show true = false from h) (by decide), fun _ h => absurd (show true = false from h) (by decide), fun _ => hN, fun h => absurd h (noOf (D := D) (HC.out 11) (by kernel_rfl) HD.out)⟩⟩
    refine AllF.step (m := 0) (j := 12) rfl ?_ ?_
    · intro D f w1 hD hB hR hp hcl hX
      have h10 : D 10 = true := (hpAt hp 10 (by kernel_rfl)).1
      obtain ⟨a1, q1, c1, e16, hq1, _⟩ := hX.2.2.1 h10
      clear hq1
      have HX := Lib.hid hX
      have HC := Lib.hid hcl
      have HB := Lib.hid hB
      have HD := Lib.hid hD
      clear hX hcl hB hD hR hp
      refine wpOp_step rfl (fun K hK => ?_)
      simp only [putAll, Act.put, List.setIfInBounds_toArray, List.set_cons_succ, List.set_cons_zero]
      go_simp
      exact hK _ _ ⟨.slice a1 q1 c1, (by show _ = Act.put _ (some 5) _; simp only [putAll, Act.put, List.setIfInBounds_toArray, List.set_cons_succ, List.set_cons_zero, *]; all_goals rfl), trivial, Below.refl _ _, ⟨HX.out.1, HX.out.2.1, HX.out.2.2.1, fun _ => e16.symm⟩⟩
    exact trivial
  · intro D f w1 hD hB hR hX
    obtain ⟨_, _, hX3, hX4⟩ := hX
    obtain ⟨a, q, c, e16, hq, hown⟩ := hX3 (hD 10 (by decide))
    have e5 := hX4 (hD 11 (by decide))
    rw [e16] at e5
    rw [strs_enc] at hown
    have hq1 : q ≤ 100000 := by have := HL1.out; rw [hq, List.length_append]; omega
    have SV := Lib.hid (sortN_v w1 hown hq1)
    have HB1 : Hid (Below w.heap.size w w1) := HB2.out.trans (hB.mono (by rw [HN.out]; exact HB2.out.size))
    have hNw : w.heap.size ≤ N := by rw [HN.out]; exact HB2.out.size
    have HRW : Hid (∀ k, Value.ownBlock (.slice a q c) = some k → N ≤ k) := fun k e => (hown.lt k e).1
    have HN1 := Lib.hid (hsz hB)
    clear hX3 hX4 hq hown hD hB hR rd2 rd3 pb2 pb3 hsz
    simp only [putAll, Act.put, List.setIfInBounds_toArray, List.set_cons_succ, List.set_cons_zero, e5]
    go_wp2_with fail
    refine SV.out.mono ?_; rintro e w3 ⟨rfl, ho3, hg3⟩
    have CV := Lib.hid (compactN_v w3 ho3 hq1)
    have HB3 : Hid (Below w.heap.size w w3) := HB1.out.grown hg3 HB1.out.size (fun k e => by have := HRW.out k e; omega)
    clear ho3 hg3
    go_wp2_with fail
    refine CV.out.mono ?_; rintro e w4 ⟨k, rfl, hk, hkn, ho4, hg4⟩
    have HB4 : Hid (Below w.heap.size w w4) := HB3.out.grown hg4 HB3.out.size (fun k e => by have := HRW.out k e; omega)
    have HK4 : Hid (k = (dnm l o).length) := by unfold Hid; rw [HD.out]; exact hk
    have HO4 : Hid (w4.ownsRow w.heap.size 9 1 (.slice a k c) k ((dnm l o).map encStr)) := by unfold Hid; rw [HD.out]; exact own_mono' ho4 hNw
    clear ho4 hg4 hk
    go_wp2_with fail
    go_ret
    exact ⟨a, k, c, rfl, HK4.out, HO4.out, HB4.out⟩
end Go.Proofs.Ytpoipkjchnopbaa.P9
