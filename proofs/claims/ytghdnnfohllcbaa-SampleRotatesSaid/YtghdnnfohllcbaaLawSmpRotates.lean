import Derived.Test.YtghdnnfohllcbaaSsaR
/- SampleRotates for all inputs (BEGUN: regions 0 to 3; region 4 is drawn, 56 operations, 17 calls with guards: region_ssa with StepG). -/
namespace Go.Proofs.Ytghdnnfohllcbaa.S10
open Go.RowKit Go.Sort C6 SN

def RoR (N T S F P Q EV EM : Int) (N' T' S' F' a b : Nat) (l k m h : List Int) : List (Value → World → Prop) := [kVal (.agg #[.int .i64 N, .int .i64 T, .int .i64 S, .int .i64 F]), kVal (.int .i64 EV), kVal (.agg #[.int .i64 N, .int .i64 T, .int .i64 S, .int .i64 F]), kVal (.int .i64 EV), kVal (.bool true), kVal (.bool true), kVal (.agg #[.int .i64 N, .int .i64 T, .int .i64 S, .int .i64 F]), kVal (.int .i64 P), kInts l, kVal (.agg #[.int .i64 N, .int .i64 T, .int .i64 S, .int .i64 F]), kVal (.int .i64 P), kInts l, kVal (.bool true), kVal (.bool true), kVal (.bool true), kVal (.agg #[.int .i64 N, .int .i64 T, .int .i64 S, .int .i64 F]), kVal (.int .i64 P), kVal (.int .i64 Q), kInts k, kVal (.agg #[.int .i64 N, .int .i64 T, .int .i64 S, .int .i64 F]), kVal (.int .i64 P), kVal (.int .i64 Q), kInts k, kVal (.bool true), kVal (.bool true), kVal (.bool true), kVal (.agg #[.int .i64 (N' : Int), .int .i64 (T' : Int), .int .i64 (S' : Int), .int .i64 (F' : Int)]), kVal (.int .i64 EM), kVal (.agg #[.int .i64 (N' : Int), .int .i64 (T' : Int), .int .i64 (S' : Int), .int .i64 (F' : Int)]), kVal (.int .i64 EM), kVal (.bool true), kVal (.bool true), kVal (.bool true), kVal (.agg #[.int .i64 (N' : Int), .int .i64 (T' : Int), .int .i64 (S' : Int), .int .i64 (F' : Int)]), kVal (.int .i64 (a : Int)), kInts m, kVal (.agg #[.int .i64 (N' : Int), .int .i64 (T' : Int), .int .i64 (S' : Int), .int .i64 (F' : Int)]), kVal (.int .i64 (a : Int)), kInts m, kVal (.bool true), kVal (.bool true), kVal (.bool true), kVal (.agg #[.int .i64 (N' : Int), .int .i64 (T' : Int), .int .i64 (S' : Int), .int .i64 (F' : Int)]), kVal (.int .i64 (a : Int)), kVal (.int .i64 (b : Int)), kInts h, kVal (.agg #[.int .i64 (N' : Int), .int .i64 (T' : Int), .int .i64 (S' : Int), .int .i64 (F' : Int)]), kVal (.int .i64 (a : Int)), kVal (.int .i64 (b : Int)), kInts h, kVal (.bool true), kVal (.bool true), kVal (.bool true), kVal (.bool true), kVal (.bool true), kVal (.bool true)]

set_option maxHeartbeats 16000000 in
set_option maxRecDepth 100000 in
theorem SampleRotates_any (N T S F P Q : Int) (ao : Option Addr) (ts : List Int) (cap : Nat) (w : World) (ht : RdZ w ao cap ts) :
    Calls Try.prog 7 #[.agg #[.int .i64 N, .int .i64 T, .int .i64 S, .int .i64 F], .int .i64 P, .int .i64 Q, .slice ao ts.length cap] w fun e w' => e = .returned (.bool true) ∧ Below w.heap.size w w' := by
  obtain ⟨W0, hW0⟩ : ∃ W, W = w.alloc (.cells #[.int .i64 N, .int .i64 T, .int .i64 S, .int .i64 F] 62) := ⟨_, rfl⟩
  obtain ⟨g, hg⟩ : ∃ g, g = w.heap.size := ⟨_, rfl⟩
  have x0 : W0.heap[g]? = some (.cells #[.int .i64 N, .int .i64 T, .int .i64 S, .int .i64 F] 62 (0, 0)) := by rw [hW0, hg]; exact cells4 _ _ _ _ _
  have b0 : Below w.heap.size w W0 := by rw [hW0]; exact below_new _ _
  obtain ⟨W1, hW1⟩ : ∃ W, W = W0.alloc (.cells #[.slice ao ts.length cap, .int .i64 0] 26) := ⟨_, rfl⟩
  obtain ⟨B, hB⟩ : ∃ B, B = W0.heap.size := ⟨_, rfl⟩
  have b1 : Below W0.heap.size W0 W1 := by rw [hW1]; exact below_new _ _
  have T1 : Tap W1 B ao ts.length cap 0 := by rw [hW1, hB]; exact Tap.new W0 ao ts.length cap
  have s1 : W1.heap.size = B + 1 := by rw [hW1, hB]; exact World.size_alloc _ _
  have hgB : g < B := by rw [hB]; exact (Array.getElem?_eq_some_iff.1 x0).1
  have x1 : W1.heap[g]? = some (.cells #[.int .i64 N, .int .i64 T, .int .i64 S, .int .i64 F] 62 (0, 0)) := (b1.block g (by rw [← hB]; exact hgB)).trans x0
  have R0 := ht.below b0
  have R1 := R0.below b1
  have RTL : 0 < (intz ts).length → ∀ b o, ao = some ⟨b, o, none⟩ → b < B := fun h0 b o e => by have := R0.lt h0 b o e; omega
  have NX : Hid (∀ (W : World) (i m : Nat), Tap W B ao ts.length cap i → W1.grownBy W (some B) → i ≤ 900 → 1 ≤ m → m ≤ 1000 → ∀ q : Int, q = m → Calls Try.prog 10 #[.pointer (some ⟨B, 0, none⟩), .int .i64 q] W (NextPost W B ao ts.length cap i m)) := fun W i m hT hg hi hm1 hm2 q hq => Next_v B ao cap ts i m W hT (R1.keep RTL ⟨hg.os, hg.tape, hg.output, hg.size, fun k hk => hg.block k (by omega) (fun e => by have := Option.some.inj e; omega)⟩) (by omega) hm1 (by omega) q hq
  have HT1 := Lib.hid T1
  have HB1 : Hid (Below w.heap.size w W1) := b0.trans (b1.mono b0.size)
  have HS1 := Lib.hid s1
  have HX1 := Lib.hid x1
  have HgB := Lib.hid hgB
  have HGw := Lib.hid hg
  obtain ⟨tn, htn⟩ : ∃ n, n = ts.length := ⟨_, rfl⟩
  rw [← htn] at NX HT1 hW1 ⊢
  clear ht b0 b1 T1 s1 R0 R1 RTL htn x0 x1 hgB
  go_enter Try.func7, Try.ntmps7
  go_upto_region 1 with fail
  rw [← hW0]
  try rw [← hg]
  clear hW0 hg
  go_upto_region 2 with fail
  rw [← hW1]
  try rw [← hB]
  clear hW1 hB
  go_wp2_with fail
  refine (NX.out W1 0 7 HT1.out ⟨rfl, rfl, rfl, Nat.le_refl _, fun _ _ _ => rfl⟩ (by omega) (by omega) (by omega) 7 rfl).mono ?_; rintro e w2 ⟨N', rfl, hr1, g2, z2, t2⟩
  have NX2 := Lib.hid (NX.out w2 (0 + 1) 15 t2 g2 (by omega) (by omega) (by omega) 15 rfl)
  have HG2 := Lib.hid g2
  have HZ2 := Lib.hid z2
  clear g2 z2 t2 hr1
  go_wp2_with fail
  refine NX2.out.mono ?_; rintro e w3 ⟨T', rfl, hr2, g3, z3, t3⟩
  have HG3 : Hid (W1.grownBy w3 (some B)) := gb_trans HG2.out g3
  have NX3 := Lib.hid (NX.out w3 (0 + 1 + 1) 4 t3 HG3.out (by omega) (by omega) (by omega) 4 rfl)
  have HZ3 : Hid (w3.heap.size = W1.heap.size) := z3.trans HZ2.out
  clear g3 z3 t3 hr2 NX2
  go_wp2_with fail
  refine NX3.out.mono ?_; rintro e w4 ⟨S', rfl, hr3, g4, z4, t4⟩
  have HG4 : Hid (W1.grownBy w4 (some B)) := gb_trans HG3.out g4
  have NX4 := Lib.hid (NX.out w4 (0 + 1 + 1 + 1) 30 t4 HG4.out (by omega) (by omega) (by omega) 30 rfl)
  have HZ4 : Hid (w4.heap.size = W1.heap.size) := z4.trans HZ3.out
  clear g4 z4 t4 hr3 NX3
  go_wp2_with fail
  refine NX4.out.mono ?_; rintro e w5 ⟨F', rfl, hr4, g5, z5, t5⟩
  have HG5 : Hid (W1.grownBy w5 (some B)) := gb_trans HG4.out g5
  have hz5 : w5.heap.size = B + 1 := by rw [z5, HZ4.out]; exact HS1.out
  obtain ⟨W6, hW6⟩ : ∃ W, W = w5.alloc (.cells #[.int .i64 (N' : Int), .int .i64 (T' : Int), .int .i64 (S' : Int), .int .i64 (F' : Int)] 62) := ⟨_, rfl⟩
  obtain ⟨g6, hg6⟩ : ∃ g, g = B + 1 := ⟨_, rfl⟩
  have x6 : W6.heap[g6]? = some (.cells #[.int .i64 (N' : Int), .int .i64 (T' : Int), .int .i64 (S' : Int), .int .i64 (F' : Int)] 62 (0, 0)) := by rw [hW6, hg6, ← hz5]; exact cells4 _ _ _ _ _
  have b6 : Below w5.heap.size w5 W6 := by rw [hW6]; exact below_new _ _
  have HT6 := Lib.hid (t5.keep b6)
  have HG6 : Hid (W1.grownBy W6 (some B)) := gb_trans HG5.out (below_gb b6 _)
  have HX6 := Lib.hid x6
  have NX6 := Lib.hid (NX.out W6 (0 + 1 + 1 + 1 + 1) 80 HT6.out HG6.out (by omega) (by omega) (by omega) 80 rfl)
  clear g5 z5 t5 b6 NX4 x6 HG2 HG3 HG4 HG5 HZ2 HZ3 HZ4 hr4
  go_upto_region 3 with fail
  rw [← hW6]
  try rw [← hg6]
  clear hW6
  go_wp2_with fail
  refine NX6.out.mono ?_; rintro e w7 ⟨a, rfl, ha, g7, z7, t7⟩
  have HG7 : Hid (W1.grownBy w7 (some B)) := gb_trans HG6.out g7
  have NX7 := Lib.hid (NX.out w7 (0 + 1 + 1 + 1 + 1 + 1) 80 t7 HG7.out (by omega) (by omega) (by omega) 80 rfl)
  have x7 : w7.heap[g6]? = some (.cells #[.int .i64 (N' : Int), .int .i64 (T' : Int), .int .i64 (S' : Int), .int .i64 (F' : Int)] 62 (0, 0)) := (g7.block g6 (Array.getElem?_eq_some_iff.1 HX6.out).1 (fun e => by have := Option.some.inj e; omega)).trans HX6.out
  have HX7 := Lib.hid x7
  clear g7 z7 t7 ha x7 NX6 HG6 HT6
  go_wp2_with fail
  refine NX7.out.mono ?_; rintro e w8 ⟨b, rfl, hb, g8, z8, t8⟩
  have HG8 : Hid (W1.grownBy w8 (some B)) := gb_trans HG7.out g8
  have HX8 : Hid (w8.heap[g6]? = some (.cells #[.int .i64 (N' : Int), .int .i64 (T' : Int), .int .i64 (S' : Int), .int .i64 (F' : Int)] 62 (0, 0))) := (g8.block g6 (Array.getElem?_eq_some_iff.1 HX7.out).1 (fun e => by have := Option.some.inj e; omega)).trans HX7.out
  have HX8g : Hid (w8.heap[g]? = some (.cells #[.int .i64 N, .int .i64 T, .int .i64 S, .int .i64 F] 62 (0, 0))) := (HG8.out.block g (Array.getElem?_eq_some_iff.1 HX1.out).1 (fun e => by have := Option.some.inj e; have := HgB.out; omega)).trans HX1.out
  have HB8 : Hid (Below w.heap.size w w8) := ⟨HG8.out.os.trans HB1.out.os, HG8.out.tape.trans HB1.out.tape, HG8.out.output.trans HB1.out.output, Nat.le_trans HB1.out.size HG8.out.size, fun k hk => (HG8.out.block k (Nat.lt_of_lt_of_le hk HB1.out.size) (fun e => by have := Option.some.inj e; have := HgB.out; have := HGw.out; omega)).trans (HB1.out.block k hk)⟩
  clear g8 z8 t8 hb NX7 HG7 HX7 NX HT1
  go_upto_region 4 with fail
  subst hg6
  obtain ⟨EV, hEV⟩ : ∃ x, x = rotE N T S F := ⟨_, rfl⟩
  obtain ⟨l, hl⟩ : ∃ x, x = panI N T S F P := ⟨_, rfl⟩
  obtain ⟨k, hk⟩ : ∃ x, x = both (panI N T S F P) (panI N T S F Q) := ⟨_, rfl⟩
  have CV : Hid (∀ W', Calls Try.prog 33 #[.agg #[.int .i64 N, .int .i64 T, .int .i64 S, .int .i64 F]] W' fun e w' => e = .returned (.int .i64 EV) ∧ Below W'.heap.size W' w') := fun W' => by rw [hEV]; exact Validate_v _ _ _ _ W'
  have CRV : Hid (∀ W', Calls Try.prog 34 #[.agg #[.int .i64 N, .int .i64 T, .int .i64 S, .int .i64 F]] W' fun e w' => e = .returned (.int .i64 EV) ∧ Below W'.heap.size W' w') := fun W' => by rw [hEV]; exact rValidate_v _ _ _ _ W'
  have CP : Hid (∀ W', Calls Try.prog 35 #[.agg #[.int .i64 N, .int .i64 T, .int .i64 S, .int .i64 F], .int .i64 P] W' (IPost W' l)) := fun W' => by rw [hl]; exact Panels_i _ _ _ _ _ W'
  have CRP : Hid (∀ W', Calls Try.prog 36 #[.agg #[.int .i64 N, .int .i64 T, .int .i64 S, .int .i64 F], .int .i64 P] W' (IPost W' l)) := fun W' => by rw [hl]; exact rPanels_i _ _ _ _ _ W'
  have CS : Hid (∀ W', Calls Try.prog 37 #[.agg #[.int .i64 N, .int .i64 T, .int .i64 S, .int .i64 F], .int .i64 P, .int .i64 Q] W' (IPost W' k)) := fun W' => by rw [hk]; exact Shared_i _ _ _ _ _ _ W'
  have CRS : Hid (∀ W', Calls Try.prog 38 #[.agg #[.int .i64 N, .int .i64 T, .int .i64 S, .int .i64 F], .int .i64 P, .int .i64 Q] W' (IPost W' k)) := fun W' => by rw [hk]; exact rShared_i _ _ _ _ _ _ W'
  clear hEV hl hk
  obtain ⟨EM, hEM⟩ : ∃ x, x = rotE (N' : Int) (T' : Int) (S' : Int) (F' : Int) := ⟨_, rfl⟩
  obtain ⟨m, hm⟩ : ∃ x, x = panI (N' : Int) (T' : Int) (S' : Int) (F' : Int) (a : Int) := ⟨_, rfl⟩
  obtain ⟨h, hh⟩ : ∃ x, x = both (panI (N' : Int) (T' : Int) (S' : Int) (F' : Int) (a : Int)) (panI (N' : Int) (T' : Int) (S' : Int) (F' : Int) (b : Int)) := ⟨_, rfl⟩
  have DV : Hid (∀ W', Calls Try.prog 33 #[.agg #[.int .i64 (N' : Int), .int .i64 (T' : Int), .int .i64 (S' : Int), .int .i64 (F' : Int)]] W' fun e w' => e = .returned (.int .i64 EM) ∧ Below W'.heap.size W' w') := fun W' => by rw [hEM]; exact Validate_v _ _ _ _ W'
  have DRV : Hid (∀ W', Calls Try.prog 34 #[.agg #[.int .i64 (N' : Int), .int .i64 (T' : Int), .int .i64 (S' : Int), .int .i64 (F' : Int)]] W' fun e w' => e = .returned (.int .i64 EM) ∧ Below W'.heap.size W' w') := fun W' => by rw [hEM]; exact rValidate_v _ _ _ _ W'
  have DP : Hid (∀ W', Calls Try.prog 35 #[.agg #[.int .i64 (N' : Int), .int .i64 (T' : Int), .int .i64 (S' : Int), .int .i64 (F' : Int)], .int .i64 (a : Int)] W' (IPost W' m)) := fun W' => by rw [hm]; exact Panels_i _ _ _ _ _ W'
  have DRP : Hid (∀ W', Calls Try.prog 36 #[.agg #[.int .i64 (N' : Int), .int .i64 (T' : Int), .int .i64 (S' : Int), .int .i64 (F' : Int)], .int .i64 (a : Int)] W' (IPost W' m)) := fun W' => by rw [hm]; exact rPanels_i _ _ _ _ _ W'
  have DS : Hid (∀ W', Calls Try.prog 37 #[.agg #[.int .i64 (N' : Int), .int .i64 (T' : Int), .int .i64 (S' : Int), .int .i64 (F' : Int)], .int .i64 (a : Int), .int .i64 (b : Int)] W' (IPost W' h)) := fun W' => by rw [hh]; exact Shared_i _ _ _ _ _ _ W'
  have DRS : Hid (∀ W', Calls Try.prog 38 #[.agg #[.int .i64 (N' : Int), .int .i64 (T' : Int), .int .i64 (S' : Int), .int .i64 (F' : Int)], .int .i64 (a : Int), .int .i64 (b : Int)] W' (IPost W' h)) := fun W' => by rw [hh]; exact rShared_i _ _ _ _ _ _ W'
  clear hEM hm hh
  have CAW : Hid (∀ W', Calls Try.prog 15 #[] W' fun e w' => e = .returned (.bool true) ∧ Below W'.heap.size W' w') := fun W' => awake10 W'
  have eqs : ∀ x : Int, (x == x) = true := fun x => beq_self_eq_true x
  have cg : ∀ {w1 : World}, Below w8.heap.size w8 w1 → w1.cell? ⟨g, 0, none⟩ = some (.int .i64 N) ∧ w1.cell? ⟨g, 1, none⟩ = some (.int .i64 T) ∧ w1.cell? ⟨g, 2, none⟩ = some (.int .i64 S) ∧ w1.cell? ⟨g, 3, none⟩ = some (.int .i64 F) := fun hb => cells4_at ((hb.block g (Array.getElem?_eq_some_iff.1 HX8g.out).1).trans HX8g.out)
  have cm : ∀ {w1 : World}, Below w8.heap.size w8 w1 → w1.cell? ⟨B + 1, 0, none⟩ = some (.int .i64 (N' : Int)) ∧ w1.cell? ⟨B + 1, 1, none⟩ = some (.int .i64 (T' : Int)) ∧ w1.cell? ⟨B + 1, 2, none⟩ = some (.int .i64 (S' : Int)) ∧ w1.cell? ⟨B + 1, 3, none⟩ = some (.int .i64 (F' : Int)) := fun hb => cells4_at ((hb.block (B + 1) (Array.getElem?_eq_some_iff.1 HX8.out).1).trans HX8.out)
  clear HG8 HX6 HX1 HgB HGw HS1 HB1
  refine wp_region_any (by kernel_rfl) ?_
  refine region_ssa [29, 30, 31, 32, 33, 34, 35, 36, 37, 38, 39, 40, 41, 42, 43, 44, 45, 46, 47, 48, 49, 50, 51, 52, 53, 54, 55, 56, 57, 58, 59, 60, 61, 62, 63, 64, 65, 66, 67, 68, 69, 70, 71, 72, 73, 74, 75, 76, 77, 78, 79, 80, 81, 82, 83, 8] (Below w8.heap.size w8) (fun w1 w2 => Below w1.heap.size w1 w2) (RLs (RoR N T S F P Q EV EM N' T' S' F' a b l k m h)) (fun _ _ _ => True) (fun f => rfl) (by kernel_rfl) (by kernel_rfl) ?_ ?_ ?_ ?_ (stepG_below (n := 56) ?_) ?_
  · exact (Below.refl _ _).drew
  · intro _; trivial
  · intro i v w1 w2 _ h' hE; exact RLs.stB (StBL.all (l := RoR N T S F P Q EV EM N' T' S' F' a b l k m h) ⟨StB.val _, StB.val _, StB.val _, StB.val _, StB.val _, StB.val _, StB.val _, StB.val _, StB.ints _, StB.val _, StB.val _, StB.ints _, StB.val _, StB.val _, StB.val _, StB.val _, StB.val _, StB.val _, StB.ints _, StB.val _, StB.val _, StB.val _, StB.ints _, StB.val _, StB.val _, StB.val _, StB.val _, StB.val _, StB.val _, StB.val _, StB.val _, StB.val _, StB.val _, StB.val _, StB.val _, StB.ints _, StB.val _, StB.val _, StB.ints _, StB.val _, StB.val _, StB.val _, StB.val _, StB.val _, StB.val _, StB.ints _, StB.val _, StB.val _, StB.val _, StB.ints _, StB.val _, StB.val _, StB.val _, StB.val _, StB.val _, StB.val _, trivial⟩) i v w1 w2 h' hE
  · intro w1 w2 hB hE; exact hB.trans (hE.mono hB.size)
  · refine AllF.step (m := 55) (j := 1) rfl ?_ ?_
    · intro D f w1 hD hB hR hp hcl hX
      obtain ⟨k0, k1, k2, k3⟩ := cg hB
      have HX := Lib.hid hX
      have HC := Lib.hid hcl
      have HB := Lib.hid hB
      have HD := Lib.hid hD
      clear hX hcl hB hD hR hp
      refine WpO.step rfl (fun K hK => ?_)
      simp only [putAll, Act.put, List.setIfInBounds_toArray, List.set_cons_succ, List.set_cons_zero]
      go_simp
      exact hK _ _ ⟨.agg #[.int .i64 N, .int .i64 T, .int .i64 S, .int .i64 F], (by show _ = Act.put _ (some 29) _; simp only [putAll, Act.put, List.setIfInBounds_toArray, List.set_cons_succ, List.set_cons_zero, *]; all_goals rfl), rfl, Below.refl _ _, trivial⟩
    refine AllF.step (m := 54) (j := 2) rfl ?_ ?_
    · intro D f w1 hD hB hR hp hcl hX
      have e0 : f 29 = .agg #[.int .i64 N, .int .i64 T, .int .i64 S, .int .i64 F] := (hpAt hp 0 (by kernel_rfl)).2
      have HX := Lib.hid hX
      have HC := Lib.hid hcl
      have HB := Lib.hid hB
      have HD := Lib.hid hD
      clear hX hcl hB hD hR hp
      refine WpO.step rfl (fun K hK => ?_)
      simp only [putAll, Act.put, List.setIfInBounds_toArray, List.set_cons_succ, List.set_cons_zero]
      go_simp
      refine (CV.out w1).mono ?_; rintro e w2 ⟨rfl, b2⟩
      go_simp
      exact hK _ _ ⟨.int .i64 EV, (by show _ = Act.put _ (some 30) _; simp only [putAll, Act.put, List.setIfInBounds_toArray, List.set_cons_succ, List.set_cons_zero, *]; all_goals rfl), rfl, b2, trivial⟩
    refine AllF.step (m := 53) (j := 3) rfl ?_ ?_
    · intro D f w1 hD hB hR hp hcl hX
      obtain ⟨k0, k1, k2, k3⟩ := cg hB
      have HX := Lib.hid hX
      have HC := Lib.hid hcl
      have HB := Lib.hid hB
      have HD := Lib.hid hD
      clear hX hcl hB hD hR hp
      refine WpO.step rfl (fun K hK => ?_)
      simp only [putAll, Act.put, List.setIfInBounds_toArray, List.set_cons_succ, List.set_cons_zero]
      go_simp
      exact hK _ _ ⟨.agg #[.int .i64 N, .int .i64 T, .int .i64 S, .int .i64 F], (by show _ = Act.put _ (some 31) _; simp only [putAll, Act.put, List.setIfInBounds_toArray, List.set_cons_succ, List.set_cons_zero, *]; all_goals rfl), rfl, Below.refl _ _, trivial⟩
    refine AllF.step (m := 52) (j := 4) rfl ?_ ?_
    · intro D f w1 hD hB hR hp hcl hX
      have e2 : f 31 = .agg #[.int .i64 N, .int .i64 T, .int .i64 S, .int .i64 F] := (hpAt hp 2 (by kernel_rfl)).2
      have HX := Lib.hid hX
      have HC := Lib.hid hcl
      have HB := Lib.hid hB
      have HD := Lib.hid hD
      clear hX hcl hB hD hR hp
      refine WpO.step rfl (fun K hK => ?_)
      simp only [putAll, Act.put, List.setIfInBounds_toArray, List.set_cons_succ, List.set_cons_zero]
      go_simp
      refine (CRV.out w1).mono ?_; rintro e w2 ⟨rfl, b2⟩
      go_simp
      exact hK _ _ ⟨.int .i64 EV, (by show _ = Act.put _ (some 32) _; simp only [putAll, Act.put, List.setIfInBounds_toArray, List.set_cons_succ, List.set_cons_zero, *]; all_goals rfl), rfl, b2, trivial⟩
    refine AllF.step (m := 51) (j := 5) rfl ?_ ?_
    · intro D f w1 hD hB hR hp hcl hX
      have e1 : f 30 = .int .i64 EV := (hpAt hp 1 (by kernel_rfl)).2
      have e3 : f 32 = .int .i64 EV := (hpAt hp 3 (by kernel_rfl)).2
      have ekk := eqs EV
      have HX := Lib.hid hX
      have HC := Lib.hid hcl
      have HB := Lib.hid hB
      have HD := Lib.hid hD
      clear hX hcl hB hD hR hp
      refine WpO.step rfl (fun K hK => ?_)
      simp only [putAll, Act.put, List.setIfInBounds_toArray, List.set_cons_succ, List.set_cons_zero]
      go_simp
      exact hK _ _ ⟨.bool true, (by show _ = Act.put _ (some 33) _; simp only [putAll, Act.put, List.setIfInBounds_toArray, List.set_cons_succ, List.set_cons_zero, *]; all_goals rfl), rfl, Below.refl _ _, trivial⟩
    refine AllF.step (m := 50) (j := 6) rfl ?_ ?_
    · intro D f w1 hD hB hR hp hcl hX
      have e4 : f 33 = .bool true := (hpAt hp 4 (by kernel_rfl)).2
      have HX := Lib.hid hX
      have HC := Lib.hid hcl
      have HB := Lib.hid hB
      have HD := Lib.hid hD
      clear hX hcl hB hD hR hp
      refine WpO.step rfl (fun K hK => ?_)
      simp only [putAll, Act.put, List.setIfInBounds_toArray, List.set_cons_succ, List.set_cons_zero]
      go_simp
      exact hK _ _ ⟨.bool true, (by show _ = Act.put _ (some 34) _; simp only [putAll, Act.put, List.setIfInBounds_toArray, List.set_cons_succ, List.set_cons_zero, *]; all_goals rfl), rfl, Below.refl _ _, trivial⟩
    refine AllF.step (m := 49) (j := 7) rfl ?_ ?_
    · intro D f w1 hD hB hR hp hcl hX
      have e5 : f 34 = .bool true := (hpAt hp 5 (by kernel_rfl)).2
      obtain ⟨k0, k1, k2, k3⟩ := cg hB
      have HX := Lib.hid hX
      have HC := Lib.hid hcl
      have HB := Lib.hid hB
      have HD := Lib.hid hD
      clear hX hcl hB hD hR hp
      refine WpO.guarded 5 34 true rfl rfl rfl (by kernel_rfl) (by kernel_rfl) e5 (fun K hK => ?_)
      simp only [putAll, Act.put, List.setIfInBounds_toArray, List.set_cons_succ, List.set_cons_zero]
      go_simp
      exact hK _ _ ⟨.agg #[.int .i64 N, .int .i64 T, .int .i64 S, .int .i64 F], (by show _ = Act.put _ (some 35) _; simp only [putAll, Act.put, List.setIfInBounds_toArray, List.set_cons_succ, List.set_cons_zero, *]; all_goals rfl), rfl, Below.refl _ _, trivial⟩
    refine AllF.step (m := 48) (j := 8) rfl ?_ ?_
    · intro D f w1 hD hB hR hp hcl hX
      have e5 : f 34 = .bool true := (hpAt hp 5 (by kernel_rfl)).2
      have HX := Lib.hid hX
      have HC := Lib.hid hcl
      have HB := Lib.hid hB
      have HD := Lib.hid hD
      clear hX hcl hB hD hR hp
      refine WpO.guarded 5 34 true rfl rfl rfl (by kernel_rfl) (by kernel_rfl) e5 (fun K hK => ?_)
      simp only [putAll, Act.put, List.setIfInBounds_toArray, List.set_cons_succ, List.set_cons_zero]
      go_simp
      exact hK _ _ ⟨.int .i64 P, (by show _ = Act.put _ (some 36) _; simp only [putAll, Act.put, List.setIfInBounds_toArray, List.set_cons_succ, List.set_cons_zero, *]; all_goals rfl), rfl, Below.refl _ _, trivial⟩
    refine AllF.step (m := 47) (j := 9) rfl ?_ ?_
    · intro D f w1 hD hB hR hp hcl hX
      have e6 : f 35 = .agg #[.int .i64 N, .int .i64 T, .int .i64 S, .int .i64 F] := (hpAt hp 6 (by kernel_rfl)).2
      have e7 : f 36 = .int .i64 P := (hpAt hp 7 (by kernel_rfl)).2
      have e5 : f 34 = .bool true := (hpAt hp 5 (by kernel_rfl)).2
      have HX := Lib.hid hX
      have HC := Lib.hid hcl
      have HB := Lib.hid hB
      have HD := Lib.hid hD
      clear hX hcl hB hD hR hp
      refine WpO.guarded 5 34 true rfl rfl rfl (by kernel_rfl) (by kernel_rfl) e5 (fun K hK => ?_)
      simp only [putAll, Act.put, List.setIfInBounds_toArray, List.set_cons_succ, List.set_cons_zero]
      go_simp
      refine (CP.out w1).mono ?_; rintro e w2 ⟨a, n, c, rfl, hn, hrow, b2⟩
      have HN := Lib.hid hn
      have HW := Lib.hid hrow
      clear hn hrow
      go_simp
      exact hK _ _ ⟨.slice a n c, (by show _ = Act.put _ (some 37) _; simp only [putAll, Act.put, List.setIfInBounds_toArray, List.set_cons_succ, List.set_cons_zero, *]; all_goals rfl), ⟨a, n, c, rfl, HN.out, row_lift HW.out (Nat.zero_le _)⟩, b2, trivial⟩
    refine AllF.step (m := 46) (j := 10) rfl ?_ ?_
    · intro D f w1 hD hB hR hp hcl hX
      have e5 : f 34 = .bool true := (hpAt hp 5 (by kernel_rfl)).2
      obtain ⟨k0, k1, k2, k3⟩ := cg hB
      have HX := Lib.hid hX
      have HC := Lib.hid hcl
      have HB := Lib.hid hB
      have HD := Lib.hid hD
      clear hX hcl hB hD hR hp
      refine WpO.guarded 5 34 true rfl rfl rfl (by kernel_rfl) (by kernel_rfl) e5 (fun K hK => ?_)
      simp only [putAll, Act.put, List.setIfInBounds_toArray, List.set_cons_succ, List.set_cons_zero]
      go_simp
      exact hK _ _ ⟨.agg #[.int .i64 N, .int .i64 T, .int .i64 S, .int .i64 F], (by show _ = Act.put _ (some 38) _; simp only [putAll, Act.put, List.setIfInBounds_toArray, List.set_cons_succ, List.set_cons_zero, *]; all_goals rfl), rfl, Below.refl _ _, trivial⟩
    refine AllF.step (m := 45) (j := 11) rfl ?_ ?_
    · intro D f w1 hD hB hR hp hcl hX
      have e5 : f 34 = .bool true := (hpAt hp 5 (by kernel_rfl)).2
      have HX := Lib.hid hX
      have HC := Lib.hid hcl
      have HB := Lib.hid hB
      have HD := Lib.hid hD
      clear hX hcl hB hD hR hp
      refine WpO.guarded 5 34 true rfl rfl rfl (by kernel_rfl) (by kernel_rfl) e5 (fun K hK => ?_)
      simp only [putAll, Act.put, List.setIfInBounds_toArray, List.set_cons_succ, List.set_cons_zero]
      go_simp
      exact hK _ _ ⟨.int .i64 P, (by show _ = Act.put _ (some 39) _; simp only [putAll, Act.put, List.setIfInBounds_toArray, List.set_cons_succ, List.set_cons_zero, *]; all_goals rfl), rfl, Below.refl _ _, trivial⟩
    refine AllF.step (m := 44) (j := 12) rfl ?_ ?_
    · intro D f w1 hD hB hR hp hcl hX
      have e9 : f 38 = .agg #[.int .i64 N, .int .i64 T, .int .i64 S, .int .i64 F] := (hpAt hp 9 (by kernel_rfl)).2
      have e10 : f 39 = .int .i64 P := (hpAt hp 10 (by kernel_rfl)).2
      have e5 : f 34 = .bool true := (hpAt hp 5 (by kernel_rfl)).2
      have HX := Lib.hid hX
      have HC := Lib.hid hcl
      have HB := Lib.hid hB
      have HD := Lib.hid hD
      clear hX hcl hB hD hR hp
      refine WpO.guarded 5 34 true rfl rfl rfl (by kernel_rfl) (by kernel_rfl) e5 (fun K hK => ?_)
      simp only [putAll, Act.put, List.setIfInBounds_toArray, List.set_cons_succ, List.set_cons_zero]
      go_simp
      refine (CRP.out w1).mono ?_; rintro e w2 ⟨a, n, c, rfl, hn, hrow, b2⟩
      have HN := Lib.hid hn
      have HW := Lib.hid hrow
      clear hn hrow
      go_simp
      exact hK _ _ ⟨.slice a n c, (by show _ = Act.put _ (some 40) _; simp only [putAll, Act.put, List.setIfInBounds_toArray, List.set_cons_succ, List.set_cons_zero, *]; all_goals rfl), ⟨a, n, c, rfl, HN.out, row_lift HW.out (Nat.zero_le _)⟩, b2, trivial⟩
    refine AllF.step (m := 43) (j := 13) rfl ?_ ?_
    · intro D f w1 hD hB hR hp hcl hX
      have e5 : f 34 = .bool true := (hpAt hp 5 (by kernel_rfl)).2
      obtain ⟨a1, n1, c1, e8, hn1, hra⟩ := (hpAt hp 8 (by kernel_rfl)).2
      replace e8 : f 37 = _ := e8
      obtain ⟨a2, n2, c2, e11, hn2, hrb⟩ := (hpAt hp 11 (by kernel_rfl)).2
      replace e11 : f 40 = _ := e11
      have CX := Lib.hid (same_rows w1 a1 a2 n1 n2 c1 c2 l hn1 hn2 hra hrb)
      clear hn1 hn2 hra hrb
      have HX := Lib.hid hX
      have HC := Lib.hid hcl
      have HB := Lib.hid hB
      have HD := Lib.hid hD
      clear hX hcl hB hD hR hp
      refine WpO.guarded 5 34 true rfl rfl rfl (by kernel_rfl) (by kernel_rfl) e5 (fun K hK => ?_)
      simp only [putAll, Act.put, List.setIfInBounds_toArray, List.set_cons_succ, List.set_cons_zero]
      go_simp
      refine CX.out.mono ?_; rintro e w2 ⟨rfl, b2⟩
      go_simp
      exact hK _ _ ⟨.bool true, (by show _ = Act.put _ (some 41) _; simp only [putAll, Act.put, List.setIfInBounds_toArray, List.set_cons_succ, List.set_cons_zero, *]; all_goals rfl), rfl, b2, trivial⟩
    refine AllF.step (m := 42) (j := 14) rfl ?_ ?_
    · intro D f w1 hD hB hR hp hcl hX
      have e5 : f 34 = .bool true := (hpAt hp 5 (by kernel_rfl)).2
      have e12 : f 41 = .bool true := (hpAt hp 12 (by kernel_rfl)).2
      have HX := Lib.hid hX
      have HC := Lib.hid hcl
      have HB := Lib.hid hB
      have HD := Lib.hid hD
      clear hX hcl hB hD hR hp
      refine WpO.step rfl (fun K hK => ?_)
      simp only [putAll, Act.put, List.setIfInBounds_toArray, List.set_cons_succ, List.set_cons_zero]
      go_simp
      exact hK _ _ ⟨.bool true, (by show _ = Act.put _ (some 42) _; simp only [putAll, Act.put, List.setIfInBounds_toArray, List.set_cons_succ, List.set_cons_zero, *]; all_goals rfl), rfl, Below.refl _ _, trivial⟩
    refine AllF.step (m := 41) (j := 15) rfl ?_ ?_
    · intro D f w1 hD hB hR hp hcl hX
      have e13 : f 42 = .bool true := (hpAt hp 13 (by kernel_rfl)).2
      have HX := Lib.hid hX
      have HC := Lib.hid hcl
      have HB := Lib.hid hB
      have HD := Lib.hid hD
      clear hX hcl hB hD hR hp
      refine WpO.step rfl (fun K hK => ?_)
      simp only [putAll, Act.put, List.setIfInBounds_toArray, List.set_cons_succ, List.set_cons_zero]
      go_simp
      exact hK _ _ ⟨.bool true, (by show _ = Act.put _ (some 43) _; simp only [putAll, Act.put, List.setIfInBounds_toArray, List.set_cons_succ, List.set_cons_zero, *]; all_goals rfl), rfl, Below.refl _ _, trivial⟩
    refine AllF.step (m := 40) (j := 16) rfl ?_ ?_
    · intro D f w1 hD hB hR hp hcl hX
      have e14 : f 43 = .bool true := (hpAt hp 14 (by kernel_rfl)).2
      obtain ⟨k0, k1, k2, k3⟩ := cg hB
      have HX := Lib.hid hX
      have HC := Lib.hid hcl
      have HB := Lib.hid hB
      have HD := Lib.hid hD
      clear hX hcl hB hD hR hp
      refine WpO.guarded 14 43 true rfl rfl rfl (by kernel_rfl) (by kernel_rfl) e14 (fun K hK => ?_)
      simp only [putAll, Act.put, List.setIfInBounds_toArray, List.set_cons_succ, List.set_cons_zero]
      go_simp
      exact hK _ _ ⟨.agg #[.int .i64 N, .int .i64 T, .int .i64 S, .int .i64 F], (by show _ = Act.put _ (some 44) _; simp only [putAll, Act.put, List.setIfInBounds_toArray, List.set_cons_succ, List.set_cons_zero, *]; all_goals rfl), rfl, Below.refl _ _, trivial⟩
    refine AllF.step (m := 39) (j := 17) rfl ?_ ?_
    · intro D f w1 hD hB hR hp hcl hX
      have e14 : f 43 = .bool true := (hpAt hp 14 (by kernel_rfl)).2
      have HX := Lib.hid hX
      have HC := Lib.hid hcl
      have HB := Lib.hid hB
      have HD := Lib.hid hD
      clear hX hcl hB hD hR hp
      refine WpO.guarded 14 43 true rfl rfl rfl (by kernel_rfl) (by kernel_rfl) e14 (fun K hK => ?_)
      simp only [putAll, Act.put, List.setIfInBounds_toArray, List.set_cons_succ, List.set_cons_zero]
      go_simp
      exact hK _ _ ⟨.int .i64 P, (by show _ = Act.put _ (some 45) _; simp only [putAll, Act.put, List.setIfInBounds_toArray, List.set_cons_succ, List.set_cons_zero, *]; all_goals rfl), rfl, Below.refl _ _, trivial⟩
    refine AllF.step (m := 38) (j := 18) rfl ?_ ?_
    · intro D f w1 hD hB hR hp hcl hX
      have e14 : f 43 = .bool true := (hpAt hp 14 (by kernel_rfl)).2
      have HX := Lib.hid hX
      have HC := Lib.hid hcl
      have HB := Lib.hid hB
      have HD := Lib.hid hD
      clear hX hcl hB hD hR hp
      refine WpO.guarded 14 43 true rfl rfl rfl (by kernel_rfl) (by kernel_rfl) e14 (fun K hK => ?_)
      simp only [putAll, Act.put, List.setIfInBounds_toArray, List.set_cons_succ, List.set_cons_zero]
      go_simp
      exact hK _ _ ⟨.int .i64 Q, (by show _ = Act.put _ (some 46) _; simp only [putAll, Act.put, List.setIfInBounds_toArray, List.set_cons_succ, List.set_cons_zero, *]; all_goals rfl), rfl, Below.refl _ _, trivial⟩
    refine AllF.step (m := 37) (j := 19) rfl ?_ ?_
    · intro D f w1 hD hB hR hp hcl hX
      have e15 : f 44 = .agg #[.int .i64 N, .int .i64 T, .int .i64 S, .int .i64 F] := (hpAt hp 15 (by kernel_rfl)).2
      have e16 : f 45 = .int .i64 P := (hpAt hp 16 (by kernel_rfl)).2
      have e17 : f 46 = .int .i64 Q := (hpAt hp 17 (by kernel_rfl)).2
      have e14 : f 43 = .bool true := (hpAt hp 14 (by kernel_rfl)).2
      have HX := Lib.hid hX
      have HC := Lib.hid hcl
      have HB := Lib.hid hB
      have HD := Lib.hid hD
      clear hX hcl hB hD hR hp
      refine WpO.guarded 14 43 true rfl rfl rfl (by kernel_rfl) (by kernel_rfl) e14 (fun K hK => ?_)
      simp only [putAll, Act.put, List.setIfInBounds_toArray, List.set_cons_succ, List.set_cons_zero]
      go_simp
      refine (CS.out w1).mono ?_; rintro e w2 ⟨a, n, c, rfl, hn, hrow, b2⟩
      have HN := Lib.hid hn
      have HW := Lib.hid hrow
      clear hn hrow
      go_simp
      exact hK _ _ ⟨.slice a n c, (by show _ = Act.put _ (some 47) _; simp only [putAll, Act.put, List.setIfInBounds_toArray, List.set_cons_succ, List.set_cons_zero, *]; all_goals rfl), ⟨a, n, c, rfl, HN.out, row_lift HW.out (Nat.zero_le _)⟩, b2, trivial⟩
    refine AllF.step (m := 36) (j := 20) rfl ?_ ?_
    · intro D f w1 hD hB hR hp hcl hX
      have e14 : f 43 = .bool true := (hpAt hp 14 (by kernel_rfl)).2
      obtain ⟨k0, k1, k2, k3⟩ := cg hB
      have HX := Lib.hid hX
      have HC := Lib.hid hcl
      have HB := Lib.hid hB
      have HD := Lib.hid hD
      clear hX hcl hB hD hR hp
      refine WpO.guarded 14 43 true rfl rfl rfl (by kernel_rfl) (by kernel_rfl) e14 (fun K hK => ?_)
      simp only [putAll, Act.put, List.setIfInBounds_toArray, List.set_cons_succ, List.set_cons_zero]
      go_simp
      exact hK _ _ ⟨.agg #[.int .i64 N, .int .i64 T, .int .i64 S, .int .i64 F], (by show _ = Act.put _ (some 48) _; simp only [putAll, Act.put, List.setIfInBounds_toArray, List.set_cons_succ, List.set_cons_zero, *]; all_goals rfl), rfl, Below.refl _ _, trivial⟩
    refine AllF.step (m := 35) (j := 21) rfl ?_ ?_
    · intro D f w1 hD hB hR hp hcl hX
      have e14 : f 43 = .bool true := (hpAt hp 14 (by kernel_rfl)).2
      have HX := Lib.hid hX
      have HC := Lib.hid hcl
      have HB := Lib.hid hB
      have HD := Lib.hid hD
      clear hX hcl hB hD hR hp
      refine WpO.guarded 14 43 true rfl rfl rfl (by kernel_rfl) (by kernel_rfl) e14 (fun K hK => ?_)
      simp only [putAll, Act.put, List.setIfInBounds_toArray, List.set_cons_succ, List.set_cons_zero]
      go_simp
      exact hK _ _ ⟨.int .i64 P, (by show _ = Act.put _ (some 49) _; simp only [putAll, Act.put, List.setIfInBounds_toArray, List.set_cons_succ, List.set_cons_zero, *]; all_goals rfl), rfl, Below.refl _ _, trivial⟩
    refine AllF.step (m := 34) (j := 22) rfl ?_ ?_
    · intro D f w1 hD hB hR hp hcl hX
      have e14 : f 43 = .bool true := (hpAt hp 14 (by kernel_rfl)).2
      have HX := Lib.hid hX
      have HC := Lib.hid hcl
      have HB := Lib.hid hB
      have HD := Lib.hid hD
      clear hX hcl hB hD hR hp
      refine WpO.guarded 14 43 true rfl rfl rfl (by kernel_rfl) (by kernel_rfl) e14 (fun K hK => ?_)
      simp only [putAll, Act.put, List.setIfInBounds_toArray, List.set_cons_succ, List.set_cons_zero]
      go_simp
      exact hK _ _ ⟨.int .i64 Q, (by show _ = Act.put _ (some 50) _; simp only [putAll, Act.put, List.setIfInBounds_toArray, List.set_cons_succ, List.set_cons_zero, *]; all_goals rfl), rfl, Below.refl _ _, trivial⟩
    refine AllF.step (m := 33) (j := 23) rfl ?_ ?_
    · intro D f w1 hD hB hR hp hcl hX
      have e19 : f 48 = .agg #[.int .i64 N, .int .i64 T, .int .i64 S, .int .i64 F] := (hpAt hp 19 (by kernel_rfl)).2
      have e20 : f 49 = .int .i64 P := (hpAt hp 20 (by kernel_rfl)).2
      have e21 : f 50 = .int .i64 Q := (hpAt hp 21 (by kernel_rfl)).2
      have e14 : f 43 = .bool true := (hpAt hp 14 (by kernel_rfl)).2
      have HX := Lib.hid hX
      have HC := Lib.hid hcl
      have HB := Lib.hid hB
      have HD := Lib.hid hD
      clear hX hcl hB hD hR hp
      refine WpO.guarded 14 43 true rfl rfl rfl (by kernel_rfl) (by kernel_rfl) e14 (fun K hK => ?_)
      simp only [putAll, Act.put, List.setIfInBounds_toArray, List.set_cons_succ, List.set_cons_zero]
      go_simp
      refine (CRS.out w1).mono ?_; rintro e w2 ⟨a, n, c, rfl, hn, hrow, b2⟩
      have HN := Lib.hid hn
      have HW := Lib.hid hrow
      clear hn hrow
      go_simp
      exact hK _ _ ⟨.slice a n c, (by show _ = Act.put _ (some 51) _; simp only [putAll, Act.put, List.setIfInBounds_toArray, List.set_cons_succ, List.set_cons_zero, *]; all_goals rfl), ⟨a, n, c, rfl, HN.out, row_lift HW.out (Nat.zero_le _)⟩, b2, trivial⟩
    refine AllF.step (m := 32) (j := 24) rfl ?_ ?_
    · intro D f w1 hD hB hR hp hcl hX
      have e14 : f 43 = .bool true := (hpAt hp 14 (by kernel_rfl)).2
      obtain ⟨a1, n1, c1, e18, hn1, hra⟩ := (hpAt hp 18 (by kernel_rfl)).2
      replace e18 : f 47 = _ := e18
      obtain ⟨a2, n2, c2, e22, hn2, hrb⟩ := (hpAt hp 22 (by kernel_rfl)).2
      replace e22 : f 51 = _ := e22
      have CX := Lib.hid (same_rows w1 a1 a2 n1 n2 c1 c2 k hn1 hn2 hra hrb)
      clear hn1 hn2 hra hrb
      have HX := Lib.hid hX
      have HC := Lib.hid hcl
      have HB := Lib.hid hB
      have HD := Lib.hid hD
      clear hX hcl hB hD hR hp
      refine WpO.guarded 14 43 true rfl rfl rfl (by kernel_rfl) (by kernel_rfl) e14 (fun K hK => ?_)
      simp only [putAll, Act.put, List.setIfInBounds_toArray, List.set_cons_succ, List.set_cons_zero]
      go_simp
      refine CX.out.mono ?_; rintro e w2 ⟨rfl, b2⟩
      go_simp
      exact hK _ _ ⟨.bool true, (by show _ = Act.put _ (some 52) _; simp only [putAll, Act.put, List.setIfInBounds_toArray, List.set_cons_succ, List.set_cons_zero, *]; all_goals rfl), rfl, b2, trivial⟩
    refine AllF.step (m := 31) (j := 25) rfl ?_ ?_
    · intro D f w1 hD hB hR hp hcl hX
      have e14 : f 43 = .bool true := (hpAt hp 14 (by kernel_rfl)).2
      have e23 : f 52 = .bool true := (hpAt hp 23 (by kernel_rfl)).2
      have HX := Lib.hid hX
      have HC := Lib.hid hcl
      have HB := Lib.hid hB
      have HD := Lib.hid hD
      clear hX hcl hB hD hR hp
      refine WpO.step rfl (fun K hK => ?_)
      simp only [putAll, Act.put, List.setIfInBounds_toArray, List.set_cons_succ, List.set_cons_zero]
      go_simp
      exact hK _ _ ⟨.bool true, (by show _ = Act.put _ (some 53) _; simp only [putAll, Act.put, List.setIfInBounds_toArray, List.set_cons_succ, List.set_cons_zero, *]; all_goals rfl), rfl, Below.refl _ _, trivial⟩
    refine AllF.step (m := 30) (j := 26) rfl ?_ ?_
    · intro D f w1 hD hB hR hp hcl hX
      have e24 : f 53 = .bool true := (hpAt hp 24 (by kernel_rfl)).2
      have HX := Lib.hid hX
      have HC := Lib.hid hcl
      have HB := Lib.hid hB
      have HD := Lib.hid hD
      clear hX hcl hB hD hR hp
      refine WpO.step rfl (fun K hK => ?_)
      simp only [putAll, Act.put, List.setIfInBounds_toArray, List.set_cons_succ, List.set_cons_zero]
      go_simp
      exact hK _ _ ⟨.bool true, (by show _ = Act.put _ (some 54) _; simp only [putAll, Act.put, List.setIfInBounds_toArray, List.set_cons_succ, List.set_cons_zero, *]; all_goals rfl), rfl, Below.refl _ _, trivial⟩
    refine AllF.step (m := 29) (j := 27) rfl ?_ ?_
    · intro D f w1 hD hB hR hp hcl hX
      have e25 : f 54 = .bool true := (hpAt hp 25 (by kernel_rfl)).2
      obtain ⟨k0, k1, k2, k3⟩ := cm hB
      have HX := Lib.hid hX
      have HC := Lib.hid hcl
      have HB := Lib.hid hB
      have HD := Lib.hid hD
      clear hX hcl hB hD hR hp
      refine WpO.guarded 25 54 true rfl rfl rfl (by kernel_rfl) (by kernel_rfl) e25 (fun K hK => ?_)
      simp only [putAll, Act.put, List.setIfInBounds_toArray, List.set_cons_succ, List.set_cons_zero]
      go_simp
      exact hK _ _ ⟨.agg #[.int .i64 (N' : Int), .int .i64 (T' : Int), .int .i64 (S' : Int), .int .i64 (F' : Int)], (by show _ = Act.put _ (some 55) _; simp only [putAll, Act.put, List.setIfInBounds_toArray, List.set_cons_succ, List.set_cons_zero, *]; all_goals rfl), rfl, Below.refl _ _, trivial⟩
    refine AllF.step (m := 28) (j := 28) rfl ?_ ?_
    · intro D f w1 hD hB hR hp hcl hX
      have e26 : f 55 = .agg #[.int .i64 (N' : Int), .int .i64 (T' : Int), .int .i64 (S' : Int), .int .i64 (F' : Int)] := (hpAt hp 26 (by kernel_rfl)).2
      have e25 : f 54 = .bool true := (hpAt hp 25 (by kernel_rfl)).2
      have HX := Lib.hid hX
      have HC := Lib.hid hcl
      have HB := Lib.hid hB
      have HD := Lib.hid hD
      clear hX hcl hB hD hR hp
      refine WpO.guarded 25 54 true rfl rfl rfl (by kernel_rfl) (by kernel_rfl) e25 (fun K hK => ?_)
      simp only [putAll, Act.put, List.setIfInBounds_toArray, List.set_cons_succ, List.set_cons_zero]
      go_simp
      refine (DV.out w1).mono ?_; rintro e w2 ⟨rfl, b2⟩
      go_simp
      exact hK _ _ ⟨.int .i64 EM, (by show _ = Act.put _ (some 56) _; simp only [putAll, Act.put, List.setIfInBounds_toArray, List.set_cons_succ, List.set_cons_zero, *]; all_goals rfl), rfl, b2, trivial⟩
    refine AllF.step (m := 27) (j := 29) rfl ?_ ?_
    · intro D f w1 hD hB hR hp hcl hX
      have e25 : f 54 = .bool true := (hpAt hp 25 (by kernel_rfl)).2
      obtain ⟨k0, k1, k2, k3⟩ := cm hB
      have HX := Lib.hid hX
      have HC := Lib.hid hcl
      have HB := Lib.hid hB
      have HD := Lib.hid hD
      clear hX hcl hB hD hR hp
      refine WpO.guarded 25 54 true rfl rfl rfl (by kernel_rfl) (by kernel_rfl) e25 (fun K hK => ?_)
      simp only [putAll, Act.put, List.setIfInBounds_toArray, List.set_cons_succ, List.set_cons_zero]
      go_simp
      exact hK _ _ ⟨.agg #[.int .i64 (N' : Int), .int .i64 (T' : Int), .int .i64 (S' : Int), .int .i64 (F' : Int)], (by show _ = Act.put _ (some 57) _; simp only [putAll, Act.put, List.setIfInBounds_toArray, List.set_cons_succ, List.set_cons_zero, *]; all_goals rfl), rfl, Below.refl _ _, trivial⟩
    refine AllF.step (m := 26) (j := 30) rfl ?_ ?_
    · intro D f w1 hD hB hR hp hcl hX
      have e28 : f 57 = .agg #[.int .i64 (N' : Int), .int .i64 (T' : Int), .int .i64 (S' : Int), .int .i64 (F' : Int)] := (hpAt hp 28 (by kernel_rfl)).2
      have e25 : f 54 = .bool true := (hpAt hp 25 (by kernel_rfl)).2
      have HX := Lib.hid hX
      have HC := Lib.hid hcl
      have HB := Lib.hid hB
      have HD := Lib.hid hD
      clear hX hcl hB hD hR hp
      refine WpO.guarded 25 54 true rfl rfl rfl (by kernel_rfl) (by kernel_rfl) e25 (fun K hK => ?_)
      simp only [putAll, Act.put, List.setIfInBounds_toArray, List.set_cons_succ, List.set_cons_zero]
      go_simp
      refine (DRV.out w1).mono ?_; rintro e w2 ⟨rfl, b2⟩
      go_simp
      exact hK _ _ ⟨.int .i64 EM, (by show _ = Act.put _ (some 58) _; simp only [putAll, Act.put, List.setIfInBounds_toArray, List.set_cons_succ, List.set_cons_zero, *]; all_goals rfl), rfl, b2, trivial⟩
    refine AllF.step (m := 25) (j := 31) rfl ?_ ?_
    · intro D f w1 hD hB hR hp hcl hX
      have e27 : f 56 = .int .i64 EM := (hpAt hp 27 (by kernel_rfl)).2
      have e29 : f 58 = .int .i64 EM := (hpAt hp 29 (by kernel_rfl)).2
      have e25 : f 54 = .bool true := (hpAt hp 25 (by kernel_rfl)).2
      have ekk := eqs EM
      have HX := Lib.hid hX
      have HC := Lib.hid hcl
      have HB := Lib.hid hB
      have HD := Lib.hid hD
      clear hX hcl hB hD hR hp
      refine WpO.guarded 25 54 true rfl rfl rfl (by kernel_rfl) (by kernel_rfl) e25 (fun K hK => ?_)
      simp only [putAll, Act.put, List.setIfInBounds_toArray, List.set_cons_succ, List.set_cons_zero]
      go_simp
      exact hK _ _ ⟨.bool true, (by show _ = Act.put _ (some 59) _; simp only [putAll, Act.put, List.setIfInBounds_toArray, List.set_cons_succ, List.set_cons_zero, *]; all_goals rfl), rfl, Below.refl _ _, trivial⟩
    refine AllF.step (m := 24) (j := 32) rfl ?_ ?_
    · intro D f w1 hD hB hR hp hcl hX
      have e25 : f 54 = .bool true := (hpAt hp 25 (by kernel_rfl)).2
      have e30 : f 59 = .bool true := (hpAt hp 30 (by kernel_rfl)).2
      have HX := Lib.hid hX
      have HC := Lib.hid hcl
      have HB := Lib.hid hB
      have HD := Lib.hid hD
      clear hX hcl hB hD hR hp
      refine WpO.step rfl (fun K hK => ?_)
      simp only [putAll, Act.put, List.setIfInBounds_toArray, List.set_cons_succ, List.set_cons_zero]
      go_simp
      exact hK _ _ ⟨.bool true, (by show _ = Act.put _ (some 60) _; simp only [putAll, Act.put, List.setIfInBounds_toArray, List.set_cons_succ, List.set_cons_zero, *]; all_goals rfl), rfl, Below.refl _ _, trivial⟩
    refine AllF.step (m := 23) (j := 33) rfl ?_ ?_
    · intro D f w1 hD hB hR hp hcl hX
      have e31 : f 60 = .bool true := (hpAt hp 31 (by kernel_rfl)).2
      have HX := Lib.hid hX
      have HC := Lib.hid hcl
      have HB := Lib.hid hB
      have HD := Lib.hid hD
      clear hX hcl hB hD hR hp
      refine WpO.step rfl (fun K hK => ?_)
      simp only [putAll, Act.put, List.setIfInBounds_toArray, List.set_cons_succ, List.set_cons_zero]
      go_simp
      exact hK _ _ ⟨.bool true, (by show _ = Act.put _ (some 61) _; simp only [putAll, Act.put, List.setIfInBounds_toArray, List.set_cons_succ, List.set_cons_zero, *]; all_goals rfl), rfl, Below.refl _ _, trivial⟩
    refine AllF.step (m := 22) (j := 34) rfl ?_ ?_
    · intro D f w1 hD hB hR hp hcl hX
      have e32 : f 61 = .bool true := (hpAt hp 32 (by kernel_rfl)).2
      obtain ⟨k0, k1, k2, k3⟩ := cm hB
      have HX := Lib.hid hX
      have HC := Lib.hid hcl
      have HB := Lib.hid hB
      have HD := Lib.hid hD
      clear hX hcl hB hD hR hp
      refine WpO.guarded 32 61 true rfl rfl rfl (by kernel_rfl) (by kernel_rfl) e32 (fun K hK => ?_)
      simp only [putAll, Act.put, List.setIfInBounds_toArray, List.set_cons_succ, List.set_cons_zero]
      go_simp
      exact hK _ _ ⟨.agg #[.int .i64 (N' : Int), .int .i64 (T' : Int), .int .i64 (S' : Int), .int .i64 (F' : Int)], (by show _ = Act.put _ (some 62) _; simp only [putAll, Act.put, List.setIfInBounds_toArray, List.set_cons_succ, List.set_cons_zero, *]; all_goals rfl), rfl, Below.refl _ _, trivial⟩
    refine AllF.step (m := 21) (j := 35) rfl ?_ ?_
    · intro D f w1 hD hB hR hp hcl hX
      have e32 : f 61 = .bool true := (hpAt hp 32 (by kernel_rfl)).2
      have HX := Lib.hid hX
      have HC := Lib.hid hcl
      have HB := Lib.hid hB
      have HD := Lib.hid hD
      clear hX hcl hB hD hR hp
      refine WpO.guarded 32 61 true rfl rfl rfl (by kernel_rfl) (by kernel_rfl) e32 (fun K hK => ?_)
      simp only [putAll, Act.put, List.setIfInBounds_toArray, List.set_cons_succ, List.set_cons_zero]
      go_simp
      exact hK _ _ ⟨.int .i64 (a : Int), (by show _ = Act.put _ (some 63) _; simp only [putAll, Act.put, List.setIfInBounds_toArray, List.set_cons_succ, List.set_cons_zero, *]; all_goals rfl), rfl, Below.refl _ _, trivial⟩
    refine AllF.step (m := 20) (j := 36) rfl ?_ ?_
    · intro D f w1 hD hB hR hp hcl hX
      have e33 : f 62 = .agg #[.int .i64 (N' : Int), .int .i64 (T' : Int), .int .i64 (S' : Int), .int .i64 (F' : Int)] := (hpAt hp 33 (by kernel_rfl)).2
      have e34 : f 63 = .int .i64 (a : Int) := (hpAt hp 34 (by kernel_rfl)).2
      have e32 : f 61 = .bool true := (hpAt hp 32 (by kernel_rfl)).2
      have HX := Lib.hid hX
      have HC := Lib.hid hcl
      have HB := Lib.hid hB
      have HD := Lib.hid hD
      clear hX hcl hB hD hR hp
      refine WpO.guarded 32 61 true rfl rfl rfl (by kernel_rfl) (by kernel_rfl) e32 (fun K hK => ?_)
      simp only [putAll, Act.put, List.setIfInBounds_toArray, List.set_cons_succ, List.set_cons_zero]
      go_simp
      refine (DP.out w1).mono ?_; rintro e w2 ⟨a, n, c, rfl, hn, hrow, b2⟩
      have HN := Lib.hid hn
      have HW := Lib.hid hrow
      clear hn hrow
      go_simp
      exact hK _ _ ⟨.slice a n c, (by show _ = Act.put _ (some 64) _; simp only [putAll, Act.put, List.setIfInBounds_toArray, List.set_cons_succ, List.set_cons_zero, *]; all_goals rfl), ⟨a, n, c, rfl, HN.out, row_lift HW.out (Nat.zero_le _)⟩, b2, trivial⟩
    refine AllF.step (m := 19) (j := 37) rfl ?_ ?_
    · intro D f w1 hD hB hR hp hcl hX
      have e32 : f 61 = .bool true := (hpAt hp 32 (by kernel_rfl)).2
      obtain ⟨k0, k1, k2, k3⟩ := cm hB
      have HX := Lib.hid hX
      have HC := Lib.hid hcl
      have HB := Lib.hid hB
      have HD := Lib.hid hD
      clear hX hcl hB hD hR hp
      refine WpO.guarded 32 61 true rfl rfl rfl (by kernel_rfl) (by kernel_rfl) e32 (fun K hK => ?_)
      simp only [putAll, Act.put, List.setIfInBounds_toArray, List.set_cons_succ, List.set_cons_zero]
      go_simp
      exact hK _ _ ⟨.agg #[.int .i64 (N' : Int), .int .i64 (T' : Int), .int .i64 (S' : Int), .int .i64 (F' : Int)], (by show _ = Act.put _ (some 65) _; simp only [putAll, Act.put, List.setIfInBounds_toArray, List.set_cons_succ, List.set_cons_zero, *]; all_goals rfl), rfl, Below.refl _ _, trivial⟩
    refine AllF.step (m := 18) (j := 38) rfl ?_ ?_
    · intro D f w1 hD hB hR hp hcl hX
      have e32 : f 61 = .bool true := (hpAt hp 32 (by kernel_rfl)).2
      have HX := Lib.hid hX
      have HC := Lib.hid hcl
      have HB := Lib.hid hB
      have HD := Lib.hid hD
      clear hX hcl hB hD hR hp
      refine WpO.guarded 32 61 true rfl rfl rfl (by kernel_rfl) (by kernel_rfl) e32 (fun K hK => ?_)
      simp only [putAll, Act.put, List.setIfInBounds_toArray, List.set_cons_succ, List.set_cons_zero]
      go_simp
      exact hK _ _ ⟨.int .i64 (a : Int), (by show _ = Act.put _ (some 66) _; simp only [putAll, Act.put, List.setIfInBounds_toArray, List.set_cons_succ, List.set_cons_zero, *]; all_goals rfl), rfl, Below.refl _ _, trivial⟩
    refine AllF.step (m := 17) (j := 39) rfl ?_ ?_
    · intro D f w1 hD hB hR hp hcl hX
      have e36 : f 65 = .agg #[.int .i64 (N' : Int), .int .i64 (T' : Int), .int .i64 (S' : Int), .int .i64 (F' : Int)] := (hpAt hp 36 (by kernel_rfl)).2
      have e37 : f 66 = .int .i64 (a : Int) := (hpAt hp 37 (by kernel_rfl)).2
      have e32 : f 61 = .bool true := (hpAt hp 32 (by kernel_rfl)).2
      have HX := Lib.hid hX
      have HC := Lib.hid hcl
      have HB := Lib.hid hB
      have HD := Lib.hid hD
      clear hX hcl hB hD hR hp
      refine WpO.guarded 32 61 true rfl rfl rfl (by kernel_rfl) (by kernel_rfl) e32 (fun K hK => ?_)
      simp only [putAll, Act.put, List.setIfInBounds_toArray, List.set_cons_succ, List.set_cons_zero]
      go_simp
      refine (DRP.out w1).mono ?_; rintro e w2 ⟨a, n, c, rfl, hn, hrow, b2⟩
      have HN := Lib.hid hn
      have HW := Lib.hid hrow
      clear hn hrow
      go_simp
      exact hK _ _ ⟨.slice a n c, (by show _ = Act.put _ (some 67) _; simp only [putAll, Act.put, List.setIfInBounds_toArray, List.set_cons_succ, List.set_cons_zero, *]; all_goals rfl), ⟨a, n, c, rfl, HN.out, row_lift HW.out (Nat.zero_le _)⟩, b2, trivial⟩
    refine AllF.step (m := 16) (j := 40) rfl ?_ ?_
    · intro D f w1 hD hB hR hp hcl hX
      have e32 : f 61 = .bool true := (hpAt hp 32 (by kernel_rfl)).2
      obtain ⟨a1, n1, c1, e35, hn1, hra⟩ := (hpAt hp 35 (by kernel_rfl)).2
      replace e35 : f 64 = _ := e35
      obtain ⟨a2, n2, c2, e38, hn2, hrb⟩ := (hpAt hp 38 (by kernel_rfl)).2
      replace e38 : f 67 = _ := e38
      have CX := Lib.hid (same_rows w1 a1 a2 n1 n2 c1 c2 m hn1 hn2 hra hrb)
      clear hn1 hn2 hra hrb
      have HX := Lib.hid hX
      have HC := Lib.hid hcl
      have HB := Lib.hid hB
      have HD := Lib.hid hD
      clear hX hcl hB hD hR hp
      refine WpO.guarded 32 61 true rfl rfl rfl (by kernel_rfl) (by kernel_rfl) e32 (fun K hK => ?_)
      simp only [putAll, Act.put, List.setIfInBounds_toArray, List.set_cons_succ, List.set_cons_zero]
      go_simp
      refine CX.out.mono ?_; rintro e w2 ⟨rfl, b2⟩
      go_simp
      exact hK _ _ ⟨.bool true, (by show _ = Act.put _ (some 68) _; simp only [putAll, Act.put, List.setIfInBounds_toArray, List.set_cons_succ, List.set_cons_zero, *]; all_goals rfl), rfl, b2, trivial⟩
    refine AllF.step (m := 15) (j := 41) rfl ?_ ?_
    · intro D f w1 hD hB hR hp hcl hX
      have e32 : f 61 = .bool true := (hpAt hp 32 (by kernel_rfl)).2
      have e39 : f 68 = .bool true := (hpAt hp 39 (by kernel_rfl)).2
      have HX := Lib.hid hX
      have HC := Lib.hid hcl
      have HB := Lib.hid hB
      have HD := Lib.hid hD
      clear hX hcl hB hD hR hp
      refine WpO.step rfl (fun K hK => ?_)
      simp only [putAll, Act.put, List.setIfInBounds_toArray, List.set_cons_succ, List.set_cons_zero]
      go_simp
      exact hK _ _ ⟨.bool true, (by show _ = Act.put _ (some 69) _; simp only [putAll, Act.put, List.setIfInBounds_toArray, List.set_cons_succ, List.set_cons_zero, *]; all_goals rfl), rfl, Below.refl _ _, trivial⟩
    refine AllF.step (m := 14) (j := 42) rfl ?_ ?_
    · intro D f w1 hD hB hR hp hcl hX
      have e40 : f 69 = .bool true := (hpAt hp 40 (by kernel_rfl)).2
      have HX := Lib.hid hX
      have HC := Lib.hid hcl
      have HB := Lib.hid hB
      have HD := Lib.hid hD
      clear hX hcl hB hD hR hp
      refine WpO.step rfl (fun K hK => ?_)
      simp only [putAll, Act.put, List.setIfInBounds_toArray, List.set_cons_succ, List.set_cons_zero]
      go_simp
      exact hK _ _ ⟨.bool true, (by show _ = Act.put _ (some 70) _; simp only [putAll, Act.put, List.setIfInBounds_toArray, List.set_cons_succ, List.set_cons_zero, *]; all_goals rfl), rfl, Below.refl _ _, trivial⟩
    refine AllF.step (m := 13) (j := 43) rfl ?_ ?_
    · intro D f w1 hD hB hR hp hcl hX
      have e41 : f 70 = .bool true := (hpAt hp 41 (by kernel_rfl)).2
      obtain ⟨k0, k1, k2, k3⟩ := cm hB
      have HX := Lib.hid hX
      have HC := Lib.hid hcl
      have HB := Lib.hid hB
      have HD := Lib.hid hD
      clear hX hcl hB hD hR hp
      refine WpO.guarded 41 70 true rfl rfl rfl (by kernel_rfl) (by kernel_rfl) e41 (fun K hK => ?_)
      simp only [putAll, Act.put, List.setIfInBounds_toArray, List.set_cons_succ, List.set_cons_zero]
      go_simp
      exact hK _ _ ⟨.agg #[.int .i64 (N' : Int), .int .i64 (T' : Int), .int .i64 (S' : Int), .int .i64 (F' : Int)], (by show _ = Act.put _ (some 71) _; simp only [putAll, Act.put, List.setIfInBounds_toArray, List.set_cons_succ, List.set_cons_zero, *]; all_goals rfl), rfl, Below.refl _ _, trivial⟩
    refine AllF.step (m := 12) (j := 44) rfl ?_ ?_
    · intro D f w1 hD hB hR hp hcl hX
      have e41 : f 70 = .bool true := (hpAt hp 41 (by kernel_rfl)).2
      have HX := Lib.hid hX
      have HC := Lib.hid hcl
      have HB := Lib.hid hB
      have HD := Lib.hid hD
      clear hX hcl hB hD hR hp
      refine WpO.guarded 41 70 true rfl rfl rfl (by kernel_rfl) (by kernel_rfl) e41 (fun K hK => ?_)
      simp only [putAll, Act.put, List.setIfInBounds_toArray, List.set_cons_succ, List.set_cons_zero]
      go_simp
      exact hK _ _ ⟨.int .i64 (a : Int), (by show _ = Act.put _ (some 72) _; simp only [putAll, Act.put, List.setIfInBounds_toArray, List.set_cons_succ, List.set_cons_zero, *]; all_goals rfl), rfl, Below.refl _ _, trivial⟩
    refine AllF.step (m := 11) (j := 45) rfl ?_ ?_
    · intro D f w1 hD hB hR hp hcl hX
      have e41 : f 70 = .bool true := (hpAt hp 41 (by kernel_rfl)).2
      have HX := Lib.hid hX
      have HC := Lib.hid hcl
      have HB := Lib.hid hB
      have HD := Lib.hid hD
      clear hX hcl hB hD hR hp
      refine WpO.guarded 41 70 true rfl rfl rfl (by kernel_rfl) (by kernel_rfl) e41 (fun K hK => ?_)
      simp only [putAll, Act.put, List.setIfInBounds_toArray, List.set_cons_succ, List.set_cons_zero]
      go_simp
      exact hK _ _ ⟨.int .i64 (b : Int), (by show _ = Act.put _ (some 73) _; simp only [putAll, Act.put, List.setIfInBounds_toArray, List.set_cons_succ, List.set_cons_zero, *]; all_goals rfl), rfl, Below.refl _ _, trivial⟩
    refine AllF.step (m := 10) (j := 46) rfl ?_ ?_
    · intro D f w1 hD hB hR hp hcl hX
      have e42 : f 71 = .agg #[.int .i64 (N' : Int), .int .i64 (T' : Int), .int .i64 (S' : Int), .int .i64 (F' : Int)] := (hpAt hp 42 (by kernel_rfl)).2
      have e43 : f 72 = .int .i64 (a : Int) := (hpAt hp 43 (by kernel_rfl)).2
      have e44 : f 73 = .int .i64 (b : Int) := (hpAt hp 44 (by kernel_rfl)).2
      have e41 : f 70 = .bool true := (hpAt hp 41 (by kernel_rfl)).2
      have HX := Lib.hid hX
      have HC := Lib.hid hcl
      have HB := Lib.hid hB
      have HD := Lib.hid hD
      clear hX hcl hB hD hR hp
      refine WpO.guarded 41 70 true rfl rfl rfl (by kernel_rfl) (by kernel_rfl) e41 (fun K hK => ?_)
      simp only [putAll, Act.put, List.setIfInBounds_toArray, List.set_cons_succ, List.set_cons_zero]
      go_simp
      refine (DS.out w1).mono ?_; rintro e w2 ⟨a, n, c, rfl, hn, hrow, b2⟩
      have HN := Lib.hid hn
      have HW := Lib.hid hrow
      clear hn hrow
      go_simp
      exact hK _ _ ⟨.slice a n c, (by show _ = Act.put _ (some 74) _; simp only [putAll, Act.put, List.setIfInBounds_toArray, List.set_cons_succ, List.set_cons_zero, *]; all_goals rfl), ⟨a, n, c, rfl, HN.out, row_lift HW.out (Nat.zero_le _)⟩, b2, trivial⟩
    refine AllF.step (m := 9) (j := 47) rfl ?_ ?_
    · intro D f w1 hD hB hR hp hcl hX
      have e41 : f 70 = .bool true := (hpAt hp 41 (by kernel_rfl)).2
      obtain ⟨k0, k1, k2, k3⟩ := cm hB
      have HX := Lib.hid hX
      have HC := Lib.hid hcl
      have HB := Lib.hid hB
      have HD := Lib.hid hD
      clear hX hcl hB hD hR hp
      refine WpO.guarded 41 70 true rfl rfl rfl (by kernel_rfl) (by kernel_rfl) e41 (fun K hK => ?_)
      simp only [putAll, Act.put, List.setIfInBounds_toArray, List.set_cons_succ, List.set_cons_zero]
      go_simp
      exact hK _ _ ⟨.agg #[.int .i64 (N' : Int), .int .i64 (T' : Int), .int .i64 (S' : Int), .int .i64 (F' : Int)], (by show _ = Act.put _ (some 75) _; simp only [putAll, Act.put, List.setIfInBounds_toArray, List.set_cons_succ, List.set_cons_zero, *]; all_goals rfl), rfl, Below.refl _ _, trivial⟩
    refine AllF.step (m := 8) (j := 48) rfl ?_ ?_
    · intro D f w1 hD hB hR hp hcl hX
      have e41 : f 70 = .bool true := (hpAt hp 41 (by kernel_rfl)).2
      have HX := Lib.hid hX
      have HC := Lib.hid hcl
      have HB := Lib.hid hB
      have HD := Lib.hid hD
      clear hX hcl hB hD hR hp
      refine WpO.guarded 41 70 true rfl rfl rfl (by kernel_rfl) (by kernel_rfl) e41 (fun K hK => ?_)
      simp only [putAll, Act.put, List.setIfInBounds_toArray, List.set_cons_succ, List.set_cons_zero]
      go_simp
      exact hK _ _ ⟨.int .i64 (a : Int), (by show _ = Act.put _ (some 76) _; simp only [putAll, Act.put, List.setIfInBounds_toArray, List.set_cons_succ, List.set_cons_zero, *]; all_goals rfl), rfl, Below.refl _ _, trivial⟩
    refine AllF.step (m := 7) (j := 49) rfl ?_ ?_
    · intro D f w1 hD hB hR hp hcl hX
      have e41 : f 70 = .bool true := (hpAt hp 41 (by kernel_rfl)).2
      have HX := Lib.hid hX
      have HC := Lib.hid hcl
      have HB := Lib.hid hB
      have HD := Lib.hid hD
      clear hX hcl hB hD hR hp
      refine WpO.guarded 41 70 true rfl rfl rfl (by kernel_rfl) (by kernel_rfl) e41 (fun K hK => ?_)
      simp only [putAll, Act.put, List.setIfInBounds_toArray, List.set_cons_succ, List.set_cons_zero]
      go_simp
      exact hK _ _ ⟨.int .i64 (b : Int), (by show _ = Act.put _ (some 77) _; simp only [putAll, Act.put, List.setIfInBounds_toArray, List.set_cons_succ, List.set_cons_zero, *]; all_goals rfl), rfl, Below.refl _ _, trivial⟩
    refine AllF.step (m := 6) (j := 50) rfl ?_ ?_
    · intro D f w1 hD hB hR hp hcl hX
      have e46 : f 75 = .agg #[.int .i64 (N' : Int), .int .i64 (T' : Int), .int .i64 (S' : Int), .int .i64 (F' : Int)] := (hpAt hp 46 (by kernel_rfl)).2
      have e47 : f 76 = .int .i64 (a : Int) := (hpAt hp 47 (by kernel_rfl)).2
      have e48 : f 77 = .int .i64 (b : Int) := (hpAt hp 48 (by kernel_rfl)).2
      have e41 : f 70 = .bool true := (hpAt hp 41 (by kernel_rfl)).2
      have HX := Lib.hid hX
      have HC := Lib.hid hcl
      have HB := Lib.hid hB
      have HD := Lib.hid hD
      clear hX hcl hB hD hR hp
      refine WpO.guarded 41 70 true rfl rfl rfl (by kernel_rfl) (by kernel_rfl) e41 (fun K hK => ?_)
      simp only [putAll, Act.put, List.setIfInBounds_toArray, List.set_cons_succ, List.set_cons_zero]
      go_simp
      refine (DRS.out w1).mono ?_; rintro e w2 ⟨a, n, c, rfl, hn, hrow, b2⟩
      have HN := Lib.hid hn
      have HW := Lib.hid hrow
      clear hn hrow
      go_simp
      exact hK _ _ ⟨.slice a n c, (by show _ = Act.put _ (some 78) _; simp only [putAll, Act.put, List.setIfInBounds_toArray, List.set_cons_succ, List.set_cons_zero, *]; all_goals rfl), ⟨a, n, c, rfl, HN.out, row_lift HW.out (Nat.zero_le _)⟩, b2, trivial⟩
    refine AllF.step (m := 5) (j := 51) rfl ?_ ?_
    · intro D f w1 hD hB hR hp hcl hX
      have e41 : f 70 = .bool true := (hpAt hp 41 (by kernel_rfl)).2
      obtain ⟨a1, n1, c1, e45, hn1, hra⟩ := (hpAt hp 45 (by kernel_rfl)).2
      replace e45 : f 74 = _ := e45
      obtain ⟨a2, n2, c2, e49, hn2, hrb⟩ := (hpAt hp 49 (by kernel_rfl)).2
      replace e49 : f 78 = _ := e49
      have CX := Lib.hid (same_rows w1 a1 a2 n1 n2 c1 c2 h hn1 hn2 hra hrb)
      clear hn1 hn2 hra hrb
      have HX := Lib.hid hX
      have HC := Lib.hid hcl
      have HB := Lib.hid hB
      have HD := Lib.hid hD
      clear hX hcl hB hD hR hp
      refine WpO.guarded 41 70 true rfl rfl rfl (by kernel_rfl) (by kernel_rfl) e41 (fun K hK => ?_)
      simp only [putAll, Act.put, List.setIfInBounds_toArray, List.set_cons_succ, List.set_cons_zero]
      go_simp
      refine CX.out.mono ?_; rintro e w2 ⟨rfl, b2⟩
      go_simp
      exact hK _ _ ⟨.bool true, (by show _ = Act.put _ (some 79) _; simp only [putAll, Act.put, List.setIfInBounds_toArray, List.set_cons_succ, List.set_cons_zero, *]; all_goals rfl), rfl, b2, trivial⟩
    refine AllF.step (m := 4) (j := 52) rfl ?_ ?_
    · intro D f w1 hD hB hR hp hcl hX
      have e41 : f 70 = .bool true := (hpAt hp 41 (by kernel_rfl)).2
      have e50 : f 79 = .bool true := (hpAt hp 50 (by kernel_rfl)).2
      have HX := Lib.hid hX
      have HC := Lib.hid hcl
      have HB := Lib.hid hB
      have HD := Lib.hid hD
      clear hX hcl hB hD hR hp
      refine WpO.step rfl (fun K hK => ?_)
      simp only [putAll, Act.put, List.setIfInBounds_toArray, List.set_cons_succ, List.set_cons_zero]
      go_simp
      exact hK _ _ ⟨.bool true, (by show _ = Act.put _ (some 80) _; simp only [putAll, Act.put, List.setIfInBounds_toArray, List.set_cons_succ, List.set_cons_zero, *]; all_goals rfl), rfl, Below.refl _ _, trivial⟩
    refine AllF.step (m := 3) (j := 53) rfl ?_ ?_
    · intro D f w1 hD hB hR hp hcl hX
      have e51 : f 80 = .bool true := (hpAt hp 51 (by kernel_rfl)).2
      have HX := Lib.hid hX
      have HC := Lib.hid hcl
      have HB := Lib.hid hB
      have HD := Lib.hid hD
      clear hX hcl hB hD hR hp
      refine WpO.step rfl (fun K hK => ?_)
      simp only [putAll, Act.put, List.setIfInBounds_toArray, List.set_cons_succ, List.set_cons_zero]
      go_simp
      exact hK _ _ ⟨.bool true, (by show _ = Act.put _ (some 81) _; simp only [putAll, Act.put, List.setIfInBounds_toArray, List.set_cons_succ, List.set_cons_zero, *]; all_goals rfl), rfl, Below.refl _ _, trivial⟩
    refine AllF.step (m := 2) (j := 54) rfl ?_ ?_
    · intro D f w1 hD hB hR hp hcl hX
      have e52 : f 81 = .bool true := (hpAt hp 52 (by kernel_rfl)).2
      have HX := Lib.hid hX
      have HC := Lib.hid hcl
      have HB := Lib.hid hB
      have HD := Lib.hid hD
      clear hX hcl hB hD hR hp
      refine WpO.guarded 52 81 true rfl rfl rfl (by kernel_rfl) (by kernel_rfl) e52 (fun K hK => ?_)
      simp only [putAll, Act.put, List.setIfInBounds_toArray, List.set_cons_succ, List.set_cons_zero]
      go_simp
      refine (CAW.out w1).mono ?_; rintro e w2 ⟨rfl, b2⟩
      go_simp
      exact hK _ _ ⟨.bool true, (by show _ = Act.put _ (some 82) _; simp only [putAll, Act.put, List.setIfInBounds_toArray, List.set_cons_succ, List.set_cons_zero, *]; all_goals rfl), rfl, b2, trivial⟩
    refine AllF.step (m := 1) (j := 55) rfl ?_ ?_
    · intro D f w1 hD hB hR hp hcl hX
      have e52 : f 81 = .bool true := (hpAt hp 52 (by kernel_rfl)).2
      have e53 : f 82 = .bool true := (hpAt hp 53 (by kernel_rfl)).2
      have HX := Lib.hid hX
      have HC := Lib.hid hcl
      have HB := Lib.hid hB
      have HD := Lib.hid hD
      clear hX hcl hB hD hR hp
      refine WpO.step rfl (fun K hK => ?_)
      simp only [putAll, Act.put, List.setIfInBounds_toArray, List.set_cons_succ, List.set_cons_zero]
      go_simp
      exact hK _ _ ⟨.bool true, (by show _ = Act.put _ (some 83) _; simp only [putAll, Act.put, List.setIfInBounds_toArray, List.set_cons_succ, List.set_cons_zero, *]; all_goals rfl), rfl, Below.refl _ _, trivial⟩
    refine AllF.step (m := 0) (j := 56) rfl ?_ ?_
    · intro D f w1 hD hB hR hp hcl hX
      have e54 : f 83 = .bool true := (hpAt hp 54 (by kernel_rfl)).2
      have HX := Lib.hid hX
      have HC := Lib.hid hcl
      have HB := Lib.hid hB
      have HD := Lib.hid hD
      clear hX hcl hB hD hR hp
      refine WpO.step rfl (fun K hK => ?_)
      simp only [putAll, Act.put, List.setIfInBounds_toArray, List.set_cons_succ, List.set_cons_zero]
      go_simp
      exact hK _ _ ⟨.bool true, (by show _ = Act.put _ (some 8) _; simp only [putAll, Act.put, List.setIfInBounds_toArray, List.set_cons_succ, List.set_cons_zero, *]; all_goals rfl), rfl, Below.refl _ _, trivial⟩
    exact trivial
  · intro D f w9 hD hB hR hX
    have e8 : f 8 = .bool true := hR 55 (by decide)
    have HB9 : Hid (Below w.heap.size w w9) := HB8.out.trans (hB.mono HB8.out.size)
    clear hD hB hR hX cg cm
    simp only [putAll, Act.put, List.setIfInBounds_toArray, List.set_cons_succ, List.set_cons_zero, e8]
    clear e8
    go_wp2_with fail
    go_ret
    exact ⟨rfl, HB9.out⟩
end Go.Proofs.Ytghdnnfohllcbaa.S10
