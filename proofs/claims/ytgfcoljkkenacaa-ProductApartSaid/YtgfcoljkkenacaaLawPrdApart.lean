import Derived.Test.YtgfcoljkkenacaaPrd8
import Derived.Test.YtgfcoljkkenacaaPrd9
import Derived.ArgAppend
/- ProductApart for all inputs: Normalize and Find hand out attributes of their own. -/
namespace Go.Proofs.Ytgfcoljkkenacaa.P9
open Go.RowKit Go.Sort C6

theorem own_ex {B N n c : Nat} {w w' : World} {a : Option Addr} {xs : List Value} (h : w.ownsRow N 48 2 (.slice a n c) n xs) (hE : Ex B N w w') (hBN : B < N) : w'.ownsRow N 48 2 (.slice a n c) n xs := by
  rcases h.2 with h0 | ⟨g', cap', cur, e, hb, hg, hn, hc, hs, hx⟩
  · exact ⟨h.1, .inl h0⟩
  · exact ⟨h.1, .inr ⟨g', cap', cur, e, hb, hE.row (by decide) (by omega) hg, hn, hc, hs, hx⟩⟩
def kEmp (B N : Nat) : Value → World → Prop := fun v w => ∃ g, v = .slice (some ⟨g, 0, none⟩) 0 0 ∧ N ≤ g ∧ g ≠ B ∧ w.heap[g]? = some (.cells #[] 48 (0, 0))
def kOwn (N : Nat) (l : List Atr) : Value → World → Prop := fun v w => ∃ a c, v = .slice a 2 c ∧ w.ownsRow N 48 2 (.slice a 2 c) 2 (atv l)
def kAgg (N : Nat) (p : Pd) (l : List Atr) : Value → World → Prop := fun v w => ∃ a c, v = .agg #[.string p.id, .string p.co, .string p.br, .int .i64 p.d, .int .i64 p.c, .int .i64 p.a, .slice a 2 c] ∧ w.ownsRow N 48 2 (.slice a 2 c) 2 (atv l)
theorem Stab.emp {B N : Nat} : Stab B N (kEmp B N) := by
  rintro v w w' ⟨g, h1, h2, h3, h4⟩ hE
  exact ⟨g, h1, h2, h3, hE.row (by decide) h3 h4⟩
theorem Stab.own {B N : Nat} {l : List Atr} (hBN : B < N) : Stab B N (kOwn N l) := by
  rintro v w w' ⟨a, c, h1, h2⟩ hE
  exact ⟨a, c, h1, own_ex h2 hE hBN⟩
theorem Stab.agg {B N : Nat} {p : Pd} {l : List Atr} (hBN : B < N) : Stab B N (kAgg N p l) := by
  rintro v w w' ⟨a, c, h1, h2⟩ hE
  exact ⟨a, c, h1, own_ex h2 hE hBN⟩
def ApR (B N g4 ga : Nat) (p : Pd) (l : List Atr) : List (Value → World → Prop) := [kVal (.pointer (some ⟨g4, 0, none⟩)), kVal (.string p.id), kVal (.pointer (some ⟨g4, 1, none⟩)), kVal (.string p.co), kVal (.pointer (some ⟨g4, 2, none⟩)), kVal (.string p.br), kVal (.pointer (some ⟨g4, 3, none⟩)), kVal (.agg #[.int .i64 p.d, .int .i64 p.c, .int .i64 p.a]), kEmp B N, kVal (.pointer (some ⟨g4, 6, none⟩)), kVal (.slice (some ⟨ga, 0, none⟩) 2 2), kOwn N l, kAgg N p l, kBox B N, kAny]
def ApX (B N : Nat) (p : Pd) (l : List Atr) (D : Nat → Bool) (f : Nat → Value) (w : World) : Prop := D 14 = true → ∃ g a c, f 5 = .pointer (some ⟨g, 0, none⟩) ∧ N ≤ g ∧ g ≠ B ∧ PB w g p (.slice a 2 c) ∧ w.ownsRow N 48 2 (.slice a 2 c) 2 (atv l)

theorem wp_append_grows {P : Program} {o : Oper} {a : Act} {w : World} {K : Act → World → Prop} {Q : Exit → Act → World → Prop} (s x : Operand) (t : TypeId)
    (ho : o.op = .call { callee := .builtin .append, args := #[s, x], argTypes := #[t, t] })
    (e : TypeId) (i : TypeInfo) (z : Value) (size bytes : Nat) (ht : P.underlying t = some (.slice e)) (hi : P.info? e = some i) (hz : i.zero = some z)
    (hsize : i.size = size) (hby : i.bytes = bytes) (hzs : z.cells.size = size) (hsz : 0 < size)
    (b : Addr) (n cap : Nat) (olds : List Value) (hs : a.eval s = .slice (some b) n cap) (hlo : olds.length = n * size) (holds : ∀ j u, olds[j]? = some u → w.cell? (b.add j) = some u)
    (ad : Addr) (m c : Nat) (news : List Value) (hx : a.eval x = .slice (some ad) m c) (hl : news.length = m * size) (hnews : ∀ j u, news[j]? = some u → w.cell? (ad.add j) = some u)
    (hgr : cap < n + m) (h63 : n + m ≤ maxLen) (hbytes : (n + m) * bytes ≤ 140737488355328)
    (h : ∀ v' w', w'.ownsRow w.heap.size e size v' (n + m) (olds ++ news) → w.grownBy w' none → K (a.put o.dst v') w') :
    Oper.wp P o a w K Q := by
  obtain ⟨v', w', hrun, r1, r2⟩ := run_append_arg_grows (P := P) w t o.type e i z size bytes ht hi hz hsize hby hzs hsz b n cap olds hlo holds ad m c news hl hnews hgr h63 hbytes
  unfold Oper.wp
  simp [execOp, ho, resolve, invoke, builtin, hs, hx, hrun, Result.andThen]
  exact h _ _ r1 r2

/-- a row of two attributes, whatever they are -/
def Rw (w : World) (g : Nat) : Prop := ∃ cur : Array Value, w.heap[g]? = some (.cells cur 48 (0, 0)) ∧ 4 ≤ cur.size
theorem Rw.of {w : World} {base c : Nat} {g : Nat} {xs : List Value} (h : w.ownsRow base 48 2 (.slice (some ⟨g, 0, none⟩) 2 c) 2 xs) : Rw w g := by
  rcases h.2 with ⟨e, h0⟩ | ⟨g', cap', cur, e, hb, hg, hn, hc, hs, hx⟩
  · omega
  · cases e
    exact ⟨cur, hg, by omega⟩
theorem Rw.lt {w : World} {g : Nat} (h : Rw w g) : g < w.heap.size := by
  obtain ⟨cur, h, _⟩ := h
  exact (Array.getElem?_eq_some_iff.1 h).1
theorem Rw.cell {w : World} {g j : Nat} (h : Rw w g) (hj : j < 4) : ∃ v, w.cell? ⟨g, j, none⟩ = some v := by
  obtain ⟨cur, h, hs⟩ := h
  have : j < cur.size := by omega
  exact ⟨cur[j], by simp [World.cell?, h, this]⟩
theorem Rw.fz {w : World} {g : Nat} (h : Rw w g) (j : Nat) : w.frozen? ⟨g, j, none⟩ = false := by
  obtain ⟨cur, h, hs⟩ := h
  simp [World.frozen?, h]
theorem Rw.set {w : World} {g : Nat} (h : Rw w g) (j : Nat) (v : Value) : Rw (w.setCell ⟨g, j, none⟩ v) g := by
  obtain ⟨cur, h, hs⟩ := h
  exact ⟨cur.setIfInBounds j v, by simp [World.setCell, Array.getElem?_modify, h], by simpa using hs⟩
theorem Rw.grown {w w' : World} {g : Nat} (h : Rw w g) {row : Option Nat} (k : w.grownBy w' row) (hne : some g ≠ row) : Rw w' g := by
  obtain ⟨cur, h, hs⟩ := h
  exact ⟨cur, (k.block g (Array.getElem?_eq_some_iff.1 h).1 hne).trans h, hs⟩
theorem Rw.below {w w' : World} {g : Nat} (h : Rw w g) (b : Below w.heap.size w w') : Rw w' g := by
  obtain ⟨cur, h, hs⟩ := h
  exact ⟨cur, (b.block g (Array.getElem?_eq_some_iff.1 h).1).trans h, hs⟩
theorem rw_ne {w : World} {g k : Nat} {p : Pd} {v : Value} (h : Rw w g) (hp : PB w k p v) : g ≠ k := by
  rintro rfl
  obtain ⟨cur, h, _⟩ := h
  unfold PB at hp
  rw [hp] at h
  simp at h
theorem rd_of {w : World} {base c : Nat} {a : Option Addr} {l : List Atr} (_ : l.length = 2) (h : w.ownsRow base 48 2 (.slice a 2 c) 2 (atv l)) : RdA w a c l := by
  obtain ⟨ao, cap, e, hr, _⟩ := RdA.of_row h
  injection e with e1 _ e3
  rw [e1, e3]
  exact hr

/-- what the two loops keep -/
def Ap (B0 g6 g7 gn gp : Nat) (p : Pd) (cn cp : Nat) (w0 w : World) : Prop := Below B0 w0 w ∧ PB w g6 p (.slice (some ⟨gn, 0, none⟩) 2 cn) ∧ PB w g7 p (.slice (some ⟨gp, 0, none⟩) 2 cp) ∧ Rw w gn ∧ Rw w gp
theorem Ap.n {B0 g6 g7 gn gp : Nat} {p : Pd} {cn cp : Nat} {w0 w : World} (h : Ap B0 g6 g7 gn gp p cn cp w0 w) (hB : B0 ≤ gn) (j : Nat) (v : Value) : Ap B0 g6 g7 gn gp p cn cp w0 (w.setCell ⟨gn, j, none⟩ v) := by
  obtain ⟨h1, h2, h3, h4, h5⟩ := h
  have n6 := rw_ne h4 h2
  have n7 := rw_ne h4 h3
  refine ⟨h1.setCell hB _, h2.grown (gb_set _ _ _ _) (by simp; omega), h3.grown (gb_set _ _ _ _) (by simp; omega), h4.set _ _, ?_⟩
  by_cases e : gp = gn
  · subst e; exact h5.set _ _
  · exact h5.grown (gb_set _ _ _ _) (by simp; exact e)
theorem Ap.p {B0 g6 g7 gn gp : Nat} {p : Pd} {cn cp : Nat} {w0 w : World} (h : Ap B0 g6 g7 gn gp p cn cp w0 w) (hB : B0 ≤ gp) (j : Nat) (v : Value) : Ap B0 g6 g7 gn gp p cn cp w0 (w.setCell ⟨gp, j, none⟩ v) := by
  obtain ⟨h1, h2, h3, h4, h5⟩ := h
  have n6 := rw_ne h5 h2
  have n7 := rw_ne h5 h3
  refine ⟨h1.setCell hB _, h2.grown (gb_set _ _ _ _) (by simp; omega), h3.grown (gb_set _ _ _ _) (by simp; omega), ?_, h5.set _ _⟩
  by_cases e : gn = gp
  · subst e; exact h4.set _ _
  · exact h4.grown (gb_set _ _ _ _) (by simp; exact e)

set_option maxHeartbeats 16000000 in
set_option maxRecDepth 100000 in
theorem ProductApart_any (ao : Option Addr) (ts : List Int) (cap : Nat) (w : World) (ht : RdZ w ao cap ts) :
    Calls Try.prog 8 #[.slice ao ts.length cap] w fun e w' => e = .returned (.bool true) ∧ Below w.heap.size w w' := by
  obtain ⟨i0, hi, hz0, hz1, hz2⟩ := info_parts infoAtr
  have b1 := below_new w (.cells #[.slice ao ts.length cap, .int .i64 0] 39)
  have hT := Tap.new w ao ts.length cap
  have hR := ht.below b1
  have hB := ht.lt
  obtain ⟨W1, hW1⟩ : ∃ W1, W1 = w.alloc (.cells #[.slice ao ts.length cap, .int .i64 0] 39) := ⟨_, rfl⟩
  rw [← hW1] at b1 hT hR
  obtain ⟨B, hBB⟩ : ∃ B, B = w.heap.size := ⟨_, rfl⟩
  have hB1 : W1.heap.size = B + 1 := by rw [hW1, hBB]; simp
  rw [← hBB] at hT hB
  obtain ⟨n, hn⟩ : ∃ n, n = ts.length := ⟨_, rfl⟩
  have IT := Lib.hid (Item_v 1 (by omega) 1 rfl B ao cap ts 0 W1 hT hR hB (by omega))
  have HB1 := Lib.hid b1
  have HS1 := Lib.hid hB1
  rw [← hn] at hW1 ⊢
  clear ht b1 hT hR hB hB1 hn
  go_enter Try.func8, Try.ntmps8
  go_wp2_with fail
  rw [← hW1]
  try rw [← hBB]
  refine IT.out.mono ?_; rintro e w2 ⟨p, ga, l, ca, cb, rfl, hitm, hpw, hco, hl, hown, hgr, hT2⟩
  have hl2 : l.length = 2 := by rcases hl with rfl | rfl <;> rfl
  have bw2 : Below w.heap.size w w2 := (HB1.out).trans (gbB hgr (by omega) (by have := HS1.out; omega))
  have hga := hown.lt ga rfl
  have hs2 : W1.heap.size ≤ w2.heap.size := hgr.size
  obtain ⟨N, hN⟩ : ∃ N, N = w2.heap.size + 1 := ⟨_, rfl⟩
  obtain ⟨g4, hg4⟩ : ∃ g, g = w2.heap.size := ⟨_, rfl⟩
  obtain ⟨W3, hW3⟩ : ∃ W, W = w2.alloc (.cells #[.string p.id, .string p.co, .string p.br, .int .i64 p.d, .int .i64 p.c, .int .i64 p.a, .slice (some ⟨ga, 0, none⟩) 2 2] 33) := ⟨_, rfl⟩
  have s3 : W3.heap.size = N := by rw [hW3, hN]; exact World.size_alloc _ _
  have b3 : Below w2.heap.size w2 W3 := by rw [hW3]; exact below_new _ _
  have P3 : PB W3 g4 p (.slice (some ⟨ga, 0, none⟩) 2 2) := by rw [hW3, hg4]; exact PB.new _ _ _
  have hBN : B < N := by rw [HS1.out] at hs2; omega
  have hgaB : ga ≠ B := by have := hga.1; rw [HS1.out] at this; omega
  have hgaN : ga < N := by omega
  have hg4N : g4 < N := by omega
  have hg4B : g4 ≠ B := by rw [HS1.out] at hs2; omega
  have hga4 : ga ≠ g4 := by omega
  have HO3 := Lib.hid (own_below hown b3)
  have HBW := Lib.hid (keep bw2 b3)
  have HP3 := Lib.hid P3
  have HS3 := Lib.hid s3
  have HL := Lib.hid hl2
  clear hitm hpw hco hl hown hgr hT2 bw2 hga hs2 b3 P3 s3 IT HS1 hN hW1
  go_wp2_with fail
  rw [← hW3]
  try rw [← hg4]
  clear hW3 hg4
  have hsz : ∀ {w1 : World}, Ex B N W3 w1 → N ≤ w1.heap.size := fun h => by have := h.size; have := HS3.out; omega
  have pb4 : ∀ {w1 : World}, Ex B N W3 w1 → PB w1 g4 p (.slice (some ⟨ga, 0, none⟩) 2 2) := fun h => (h.old HP3.out.lt hg4B hg4N).trans HP3.out
  have row : ∀ {w1 : World}, Ex B N W3 w1 → w1.ownsRow W1.heap.size 48 2 (.slice (some ⟨ga, 0, none⟩) 2 2) 2 (atv l) := fun h => HO3.out.kept (h.gb (by rw [HS3.out]; omega)) (.inr (by simp [Value.ownBlock]; exact hgaB))
  refine wp_region_any (by kernel_rfl) ?_
  refine region_ssa [16, 17, 18, 19, 20, 21, 22, 23, 24, 25, 26, 27, 28, 5] (Ex B N W3) (Ex B N) (RLs (ApR B N g4 ga p l)) (ApX B N p l) (fun f => rfl) (by kernel_rfl) (by kernel_rfl) ?_ ?_ ?_ ?_ (AllF.below (n := 15) ?_) ?_
  · exact (Ex.refl _ _ _).drew 1
  · intro f h; cases h
  · intro i v w1 w2 _ h hE; exact RLs.stab (StabL.all (l := ApR B N g4 ga p l) ⟨Stab.val _, Stab.val _, Stab.val _, Stab.val _, Stab.val _, Stab.val _, Stab.val _, Stab.val _, Stab.emp, Stab.val _, Stab.val _, Stab.own hBN, Stab.agg hBN, Stab.box, Stab.any, trivial⟩) i v w1 w2 h hE
  · intro w1 w2 hB hE; exact hB.trans hE
  · refine AllF.step (m := 14) (j := 1) rfl ?_ ?_
    · intro D f w1 hD hB hR hp hcl hX
      have HX := Lib.hid hX
      have HC := Lib.hid hcl
      have HB := Lib.hid hB
      have HD := Lib.hid hD
      clear hX hcl hB hD hR hp
      refine wpOp_step rfl (fun K hK => ?_)
      simp only [putAll, Act.put, List.setIfInBounds_toArray, List.set_cons_succ, List.set_cons_zero]
      go_simp
      exact hK _ _ ⟨.pointer (some ⟨g4, 0, none⟩), (by show _ = Act.put _ (some 16) _; simp only [putAll, Act.put, List.setIfInBounds_toArray, List.set_cons_succ, List.set_cons_zero, *]; all_goals rfl), rfl, Ex.refl _ _ _, fun h => absurd h (noOf (D := D) (HC.out 14) (by kernel_rfl) HD.out)⟩
    refine AllF.step (m := 13) (j := 2) rfl ?_ ?_
    · intro D f w1 hD hB hR hp hcl hX
      have e0 : f 16 = .pointer (some ⟨g4, 0, none⟩) := (hpAt hp 0 (by kernel_rfl)).2
      obtain ⟨k0, k1, k2, k3, k4, k5, k6⟩ := (pb4 hB).cells
      have HX := Lib.hid hX
      have HC := Lib.hid hcl
      have HB := Lib.hid hB
      have HD := Lib.hid hD
      clear hX hcl hB hD hR hp
      refine wpOp_step rfl (fun K hK => ?_)
      simp only [putAll, Act.put, List.setIfInBounds_toArray, List.set_cons_succ, List.set_cons_zero]
      go_simp
      exact hK _ _ ⟨.string p.id, (by show _ = Act.put _ (some 17) _; simp only [putAll, Act.put, List.setIfInBounds_toArray, List.set_cons_succ, List.set_cons_zero, *]; all_goals rfl), rfl, Ex.refl _ _ _, fun h => absurd h (noOf (D := D) (HC.out 14) (by kernel_rfl) HD.out)⟩
    refine AllF.step (m := 12) (j := 3) rfl ?_ ?_
    · intro D f w1 hD hB hR hp hcl hX
      have HX := Lib.hid hX
      have HC := Lib.hid hcl
      have HB := Lib.hid hB
      have HD := Lib.hid hD
      clear hX hcl hB hD hR hp
      refine wpOp_step rfl (fun K hK => ?_)
      simp only [putAll, Act.put, List.setIfInBounds_toArray, List.set_cons_succ, List.set_cons_zero]
      go_simp
      exact hK _ _ ⟨.pointer (some ⟨g4, 1, none⟩), (by show _ = Act.put _ (some 18) _; simp only [putAll, Act.put, List.setIfInBounds_toArray, List.set_cons_succ, List.set_cons_zero, *]; all_goals rfl), rfl, Ex.refl _ _ _, fun h => absurd h (noOf (D := D) (HC.out 14) (by kernel_rfl) HD.out)⟩
    refine AllF.step (m := 11) (j := 4) rfl ?_ ?_
    · intro D f w1 hD hB hR hp hcl hX
      have e0 : f 18 = .pointer (some ⟨g4, 1, none⟩) := (hpAt hp 2 (by kernel_rfl)).2
      obtain ⟨k0, k1, k2, k3, k4, k5, k6⟩ := (pb4 hB).cells
      have HX := Lib.hid hX
      have HC := Lib.hid hcl
      have HB := Lib.hid hB
      have HD := Lib.hid hD
      clear hX hcl hB hD hR hp
      refine wpOp_step rfl (fun K hK => ?_)
      simp only [putAll, Act.put, List.setIfInBounds_toArray, List.set_cons_succ, List.set_cons_zero]
      go_simp
      exact hK _ _ ⟨.string p.co, (by show _ = Act.put _ (some 19) _; simp only [putAll, Act.put, List.setIfInBounds_toArray, List.set_cons_succ, List.set_cons_zero, *]; all_goals rfl), rfl, Ex.refl _ _ _, fun h => absurd h (noOf (D := D) (HC.out 14) (by kernel_rfl) HD.out)⟩
    refine AllF.step (m := 10) (j := 5) rfl ?_ ?_
    · intro D f w1 hD hB hR hp hcl hX
      have HX := Lib.hid hX
      have HC := Lib.hid hcl
      have HB := Lib.hid hB
      have HD := Lib.hid hD
      clear hX hcl hB hD hR hp
      refine wpOp_step rfl (fun K hK => ?_)
      simp only [putAll, Act.put, List.setIfInBounds_toArray, List.set_cons_succ, List.set_cons_zero]
      go_simp
      exact hK _ _ ⟨.pointer (some ⟨g4, 2, none⟩), (by show _ = Act.put _ (some 20) _; simp only [putAll, Act.put, List.setIfInBounds_toArray, List.set_cons_succ, List.set_cons_zero, *]; all_goals rfl), rfl, Ex.refl _ _ _, fun h => absurd h (noOf (D := D) (HC.out 14) (by kernel_rfl) HD.out)⟩
    refine AllF.step (m := 9) (j := 6) rfl ?_ ?_
    · intro D f w1 hD hB hR hp hcl hX
      have e0 : f 20 = .pointer (some ⟨g4, 2, none⟩) := (hpAt hp 4 (by kernel_rfl)).2
      obtain ⟨k0, k1, k2, k3, k4, k5, k6⟩ := (pb4 hB).cells
      have HX := Lib.hid hX
      have HC := Lib.hid hcl
      have HB := Lib.hid hB
      have HD := Lib.hid hD
      clear hX hcl hB hD hR hp
      refine wpOp_step rfl (fun K hK => ?_)
      simp only [putAll, Act.put, List.setIfInBounds_toArray, List.set_cons_succ, List.set_cons_zero]
      go_simp
      exact hK _ _ ⟨.string p.br, (by show _ = Act.put _ (some 21) _; simp only [putAll, Act.put, List.setIfInBounds_toArray, List.set_cons_succ, List.set_cons_zero, *]; all_goals rfl), rfl, Ex.refl _ _ _, fun h => absurd h (noOf (D := D) (HC.out 14) (by kernel_rfl) HD.out)⟩
    refine AllF.step (m := 8) (j := 7) rfl ?_ ?_
    · intro D f w1 hD hB hR hp hcl hX
      have HX := Lib.hid hX
      have HC := Lib.hid hcl
      have HB := Lib.hid hB
      have HD := Lib.hid hD
      clear hX hcl hB hD hR hp
      refine wpOp_step rfl (fun K hK => ?_)
      simp only [putAll, Act.put, List.setIfInBounds_toArray, List.set_cons_succ, List.set_cons_zero]
      go_simp
      exact hK _ _ ⟨.pointer (some ⟨g4, 3, none⟩), (by show _ = Act.put _ (some 22) _; simp only [putAll, Act.put, List.setIfInBounds_toArray, List.set_cons_succ, List.set_cons_zero, *]; all_goals rfl), rfl, Ex.refl _ _ _, fun h => absurd h (noOf (D := D) (HC.out 14) (by kernel_rfl) HD.out)⟩
    refine AllF.step (m := 7) (j := 8) rfl ?_ ?_
    · intro D f w1 hD hB hR hp hcl hX
      have e0 : f 22 = .pointer (some ⟨g4, 3, none⟩) := (hpAt hp 6 (by kernel_rfl)).2
      obtain ⟨k0, k1, k2, k3, k4, k5, k6⟩ := (pb4 hB).cells
      have HX := Lib.hid hX
      have HC := Lib.hid hcl
      have HB := Lib.hid hB
      have HD := Lib.hid hD
      clear hX hcl hB hD hR hp
      refine wpOp_step rfl (fun K hK => ?_)
      simp only [putAll, Act.put, List.setIfInBounds_toArray, List.set_cons_succ, List.set_cons_zero]
      go_simp
      exact hK _ _ ⟨.agg #[.int .i64 p.d, .int .i64 p.c, .int .i64 p.a], (by show _ = Act.put _ (some 23) _; simp only [putAll, Act.put, List.setIfInBounds_toArray, List.set_cons_succ, List.set_cons_zero, *]; all_goals rfl), rfl, Ex.refl _ _ _, fun h => absurd h (noOf (D := D) (HC.out 14) (by kernel_rfl) HD.out)⟩
    refine AllF.step (m := 6) (j := 9) rfl ?_ ?_
    · intro D f w1 hD hB hR hp hcl hX
      have hlt := hsz hB
      have HX := Lib.hid hX
      have HC := Lib.hid hcl
      have HB := Lib.hid hB
      have HD := Lib.hid hD
      clear hX hcl hB hD hR hp
      refine wpOp_step rfl (fun K hK => ?_)
      simp only [putAll, Act.put, List.setIfInBounds_toArray, List.set_cons_succ, List.set_cons_zero]
      go_simp
      exact hK _ _ ⟨.slice (some ⟨w1.heap.size, 0, none⟩) 0 0, (by show _ = Act.put _ (some 24) _; simp only [putAll, Act.put, List.setIfInBounds_toArray, List.set_cons_succ, List.set_cons_zero, *]; all_goals rfl), ⟨w1.heap.size, rfl, hlt, by omega, heap_alloc_new _ _⟩, Ex.alloc _ _, fun h => absurd h (noOf (D := D) (HC.out 14) (by kernel_rfl) HD.out)⟩
    refine AllF.step (m := 5) (j := 10) rfl ?_ ?_
    · intro D f w1 hD hB hR hp hcl hX
      have HX := Lib.hid hX
      have HC := Lib.hid hcl
      have HB := Lib.hid hB
      have HD := Lib.hid hD
      clear hX hcl hB hD hR hp
      refine wpOp_step rfl (fun K hK => ?_)
      simp only [putAll, Act.put, List.setIfInBounds_toArray, List.set_cons_succ, List.set_cons_zero]
      go_simp
      exact hK _ _ ⟨.pointer (some ⟨g4, 6, none⟩), (by show _ = Act.put _ (some 25) _; simp only [putAll, Act.put, List.setIfInBounds_toArray, List.set_cons_succ, List.set_cons_zero, *]; all_goals rfl), rfl, Ex.refl _ _ _, fun h => absurd h (noOf (D := D) (HC.out 14) (by kernel_rfl) HD.out)⟩
    refine AllF.step (m := 4) (j := 11) rfl ?_ ?_
    · intro D f w1 hD hB hR hp hcl hX
      have e0 : f 25 = .pointer (some ⟨g4, 6, none⟩) := (hpAt hp 9 (by kernel_rfl)).2
      obtain ⟨k0, k1, k2, k3, k4, k5, k6⟩ := (pb4 hB).cells
      have HX := Lib.hid hX
      have HC := Lib.hid hcl
      have HB := Lib.hid hB
      have HD := Lib.hid hD
      clear hX hcl hB hD hR hp
      refine wpOp_step rfl (fun K hK => ?_)
      simp only [putAll, Act.put, List.setIfInBounds_toArray, List.set_cons_succ, List.set_cons_zero]
      go_simp
      exact hK _ _ ⟨.slice (some ⟨ga, 0, none⟩) 2 2, (by show _ = Act.put _ (some 26) _; simp only [putAll, Act.put, List.setIfInBounds_toArray, List.set_cons_succ, List.set_cons_zero, *]; all_goals rfl), rfl, Ex.refl _ _ _, fun h => absurd h (noOf (D := D) (HC.out 14) (by kernel_rfl) HD.out)⟩
    refine AllF.step (m := 3) (j := 12) rfl ?_ ?_
    · intro D f w1 hD hB hR hp hcl hX
      obtain ⟨ge, e8, hgeN, hgeB, hge⟩ := (hpAt hp 8 (by kernel_rfl)).2
      replace e8 : f 24 = _ := e8
      have e10 : f 26 = .slice (some ⟨ga, 0, none⟩) 2 2 := (hpAt hp 10 (by kernel_rfl)).2
      have NW := (row hB).cells (g := ga) rfl
      have hlt := hsz hB
      have HLL := HL.out
      have HX := Lib.hid hX
      have HC := Lib.hid hcl
      have HB := Lib.hid hB
      have HD := Lib.hid hD
      clear hX hcl hB hD hR hp
      refine wpOp_step rfl (fun K hK => ?_)
      simp only [putAll, Act.put, List.setIfInBounds_toArray, List.set_cons_succ, List.set_cons_zero]
      rw [if_pos (by simp [Region.wanted])]
      refine wp_append_grows (.tmp 24) (.tmp 26) 31 (by rfl) 48 i0 (.agg #[.string ByteArray.empty, .string ByteArray.empty]) 2 32 Try.underlying31 hi hz0 hz1 hz2 rfl (by decide) ⟨ge, 0, none⟩ 0 0 [] (by simp [Act.eval, e8]) rfl (fun j u hj => by cases hj) ⟨ga, 0, none⟩ 2 2 (atv l) (by simp [Act.eval, e10]) (by rw [atv_length, HLL]) NW (by decide) (by decide) (by decide) ?_; intro v4 w4 hown4 hgr4; rw [Nat.zero_add, List.nil_append] at hown4; obtain ⟨a4, c4, rfl⟩ := of_row_n hown4
      have hE4 : Ex B N w1 w4 := ⟨hgr4.os, hgr4.tape, hgr4.output, hgr4.size, fun b hb _ => .inl (hgr4.block b hb (by simp))⟩
      exact hK _ _ ⟨.slice a4 2 c4, (by show _ = Act.put _ (some 27) _; simp only [putAll, Act.put, List.setIfInBounds_toArray, List.set_cons_succ, List.set_cons_zero, *]; all_goals rfl), ⟨a4, c4, rfl, own_mono' hown4 hlt⟩, hE4, fun h => absurd h (noOf (D := D) (HC.out 14) (by kernel_rfl) HD.out)⟩
    refine AllF.step (m := 2) (j := 13) rfl ?_ ?_
    · intro D f w1 hD hB hR hp hcl hX
      have e1 : f 17 = .string p.id := (hpAt hp 1 (by kernel_rfl)).2
      have e3 : f 19 = .string p.co := (hpAt hp 3 (by kernel_rfl)).2
      have e5 : f 21 = .string p.br := (hpAt hp 5 (by kernel_rfl)).2
      have e7 : f 23 = .agg #[.int .i64 p.d, .int .i64 p.c, .int .i64 p.a] := (hpAt hp 7 (by kernel_rfl)).2
      obtain ⟨a, c, e11, how⟩ := (hpAt hp 11 (by kernel_rfl)).2
      replace e11 : f 27 = _ := e11
      have HX := Lib.hid hX
      have HC := Lib.hid hcl
      have HB := Lib.hid hB
      have HD := Lib.hid hD
      clear hX hcl hB hD hR hp
      refine wpOp_step rfl (fun K hK => ?_)
      simp only [putAll, Act.put, List.setIfInBounds_toArray, List.set_cons_succ, List.set_cons_zero]
      go_simp
      exact hK _ _ ⟨.agg #[.string p.id, .string p.co, .string p.br, .int .i64 p.d, .int .i64 p.c, .int .i64 p.a, .slice a 2 c], (by show _ = Act.put _ (some 28) _; simp only [putAll, Act.put, List.setIfInBounds_toArray, List.set_cons_succ, List.set_cons_zero, *]; all_goals rfl), ⟨a, c, rfl, how⟩, Ex.refl _ _ _, fun h => absurd h (noOf (D := D) (HC.out 14) (by kernel_rfl) HD.out)⟩
    refine AllF.step (m := 1) (j := 14) rfl ?_ ?_
    · intro D f w1 hD hB hR hp hcl hX
      have hlt := hsz hB
      have HX := Lib.hid hX
      have HC := Lib.hid hcl
      have HB := Lib.hid hB
      have HD := Lib.hid hD
      clear hX hcl hB hD hR hp
      refine wpOp_step rfl (fun K hK => ?_)
      simp only [putAll, Act.put, List.setIfInBounds_toArray, List.set_cons_succ, List.set_cons_zero]
      go_simp
      exact hK _ _ ⟨.pointer (some ⟨w1.heap.size, 0, none⟩), (by show _ = Act.put _ (some 5) _; simp only [putAll, Act.put, List.setIfInBounds_toArray, List.set_cons_succ, List.set_cons_zero, *]; all_goals rfl), ⟨w1.heap.size, rfl, hlt, by omega, _, _, PB.zero w1⟩, Ex.alloc _ _, fun h => absurd h (noOf (D := D) (HC.out 14) (by kernel_rfl) HD.out)⟩
    refine AllF.step (m := 0) (j := 15) rfl ?_ ?_
    · intro D f w1 hD hB hR hp hcl hX
      obtain ⟨a, c, e12, how⟩ := (hpAt hp 12 (by kernel_rfl)).2
      replace e12 : f 28 = _ := e12
      obtain ⟨g, e13, hgN, hgB, p0, v0, hpb⟩ := (hpAt hp 13 (by kernel_rfl)).2
      replace e13 : f 5 = _ := e13
      obtain ⟨f0, f1, f2, f3, f4, f5, f6⟩ := hpb.fz
      obtain ⟨k0, k1, k2, k3, k4, k5, k6⟩ := hpb.cells
      have hnew := set7_heap w1 g p (.slice a 2 c) hpb
      have hgb := set7_gb w1 g p (.slice a 2 c)
      have hEx : Ex B N w1 (set7 w1 g p (.slice a 2 c)) := Ex.box hgb hgN ⟨_, _, hpb⟩ ⟨_, _, hnew⟩
      have hok := own_ex how hEx hBN
      have HX := Lib.hid hX
      have HC := Lib.hid hcl
      have HB := Lib.hid hB
      have HD := Lib.hid hD
      clear hX hcl hB hD hR hp
      refine wpOp_step rfl (fun K hK => ?_)
      simp only [putAll, Act.put, List.setIfInBounds_toArray, List.set_cons_succ, List.set_cons_zero]
      go_simp
      exact hK _ _ ⟨undef, (by show _ = Act.put _ (none) _; simp only [putAll, Act.put, List.setIfInBounds_toArray, List.set_cons_succ, List.set_cons_zero, *]; all_goals rfl), trivial, hEx, fun _ => ⟨g, a, c, e13, hgN, hgB, hnew, hok⟩⟩
    exact trivial
  · intro D f w1 hD hB hR hX
    obtain ⟨g5, a5, c5, e5, hg5N, hg5B, hp5, ho5⟩ := hX (hD 14 (by decide))
    obtain ⟨gk, rfl, hk, _, _⟩ := row_form ho5 (by omega)
    have P4 := pb4 hB
    have R4 := rd_of HL.out (row hB)
    have R5 := rd_of HL.out ho5
    have B4 : Below w.heap.size w w1 := HBW.out.trans (gbB (hB.gb (by rw [HS3.out]; omega)) (by omega) (by rw [HS3.out]; omega))
    have NV := Normalize_v p (some ⟨ga, 0, none⟩) 2 l w1 R4 (by rw [HL.out]; decide)
    unfold NPost at NV
    rw [HL.out] at NV
    have HNV := Lib.hid NV
    have HP4 := Lib.hid P4
    have HP5 := Lib.hid hp5
    have HR4 := Lib.hid R4
    have HR5 := Lib.hid R5
    have HB4 := Lib.hid B4
    obtain ⟨k0, k1, k2, k3, k4, k5, k6⟩ := P4.cells
    clear hD hB hR hX hp5 ho5 R4 R5 B4 NV P4 pb4 row hsz
    simp only [putAll, Act.put, List.setIfInBounds_toArray, List.set_cons_succ, List.set_cons_zero, e5]
    go_wp2_with fail
    refine HNV.out.mono ?_; rintro e w5 ⟨an, cn, rfl, hon, hb5⟩
    obtain ⟨gn, rfl, hgn, hgn1, _⟩ := row_form hon (by omega)
    obtain ⟨W6, hW6⟩ : ∃ W, W = w5.alloc (.cells #[.string p.id, .string p.co, .string p.br, .int .i64 p.d, .int .i64 p.c, .int .i64 p.a, .slice (some ⟨gn, 0, none⟩) 2 cn] 33) := ⟨_, rfl⟩
    obtain ⟨g6, hg6⟩ : ∃ g, g = w5.heap.size := ⟨_, rfl⟩
    have b56 : Below w5.heap.size w5 W6 := by rw [hW6]; exact below_new _ _
    have b6 : Below w1.heap.size w1 W6 := keep hb5 b56
    have N6 : PB W6 g6 p (.slice (some ⟨gn, 0, none⟩) 2 cn) := by rw [hW6, hg6]; exact PB.new _ _ _
    have rn6 : Rw W6 gn := (Rw.of hon).below b56
    obtain ⟨W7, hW7⟩ : ∃ W, W = W6.alloc (.cells #[.string p.id, .string p.co, .string p.br, .int .i64 p.d, .int .i64 p.c, .int .i64 p.a, .slice (some ⟨ga, 0, none⟩) 2 2] 33) := ⟨_, rfl⟩
    have b67 : Below W6.heap.size W6 W7 := by rw [hW7]; exact below_new _ _
    have L7 : PB W7 W6.heap.size p (.slice (some ⟨ga, 0, none⟩) l.length 2) := by rw [hW7, HL.out]; exact PB.new _ _ _
    have b7 : Below w1.heap.size w1 W7 := keep b6 b67
    have FV := Find1_v p W6.heap.size (some ⟨ga, 0, none⟩) 2 l W7 L7 (HR4.out.below b7) (by rw [HL.out]; decide)
    rw [HL.out] at FV
    have HFV := Lib.hid FV
    have HN7 := Lib.hid (N6.below b67)
    have HRn7 := Lib.hid (rn6.below b67)
    have HB7 := Lib.hid b7
    obtain ⟨k0, k1, k2, k3, k4, k5, k6⟩ := (HP4.out.below b6).cells
    have j0 := (HP4.out.below b7).cells.1
    have hg4l : g4 < W6.heap.size := (HP4.out.below b6).lt
    rw [hW7] at j0
    clear hon hb5 b56 b6 N6 rn6 b67 L7 b7 FV HNV
    have hgn0 : w1.heap.size ≤ gn := by omega
    clear hgn hgn1
    go_upto_region 5 with fail
    rw [← hW6]
    try rw [← hg6]
    clear hW6 hg6
    go_wp2_with fail
    rw [← hW7]
    clear hW7 k0 k1 k2 k3 k4 k5 k6
    refine HFV.out.mono ?_; rintro e w8 ⟨ap, cp, rfl, hop, hb8⟩
    obtain ⟨gp, rfl, hgp, hgp1, _⟩ := row_form hop (by omega)
    obtain ⟨W9, hW9⟩ : ∃ W, W = w8.alloc (.cells #[.string p.id, .string p.co, .string p.br, .int .i64 p.d, .int .i64 p.c, .int .i64 p.a, .slice (some ⟨gp, 0, none⟩) 2 cp] 33) := ⟨_, rfl⟩
    obtain ⟨g7, hg7⟩ : ∃ g, g = w8.heap.size := ⟨_, rfl⟩
    have b89 : Below w8.heap.size w8 W9 := by rw [hW9]; exact below_new _ _
    have b79 : Below W7.heap.size W7 W9 := keep hb8 b89
    have N9 : PB W9 g7 p (.slice (some ⟨gp, 0, none⟩) 2 cp) := by rw [hW9, hg7]; exact PB.new _ _ _
    have HA : Hid (Ap w1.heap.size g6 g7 gn gp p cn cp w1 W9) := ⟨keep HB7.out b79, HN7.out.below b79, N9, HRn7.out.below b79, (Rw.of hop).below b89⟩
    have hgp0 : w1.heap.size ≤ gp := by have := HB7.out.size; omega
    have k6 := HA.out.2.1.cells.2.2.2.2.2.2
    clear hop hb8 hgp hgp1 b89 b79 N9 HFV HN7 HRn7 HB7 j0
    go_upto_region 6 with fail
    rw [← hW9]
    try rw [← hg7]
    clear hg7 hW9
    go_wp2_with fail
    go_loopw [42, 9] (fun s42 _s9 wr => ∃ i : Nat, i ≤ 2 ∧ s42 = .int .i64 (i : Int) ∧ Hid (Ap w1.heap.size g6 g7 gn gp p cn cp w1 wr)) (fun s42 _ _ => 2 - (intOf s42).toNat)
    case atStart => exact ⟨0, by omega, rfl, HA⟩
    case round =>
      obtain ⟨i, hi2, rfl, hA⟩ := hrel
      clear k6 HA
      by_cases hlt : i < 2
      · have hltI : (i : Int) < 2 := by omega
        obtain ⟨v0, hv0⟩ := hA.out.2.2.2.1.cell (j := i * 2 + 1) (by omega)
        have hz0 := hA.out.2.2.2.1.fz (i * 2 + 1)
        have k6 := hA.out.2.1.cells.2.2.2.2.2.2
        go_wp2_with fail
        go_roundw
        case rel => exact ⟨i + 1, by omega, by go_num, hA.out.n hgn0 _ _⟩
        case measure => first | (simp [intOf]; done) | (simp [intOf]; omega)
      · have hni : ¬ (i : Int) < 2 := by omega
        have k6 := hA.out.2.2.1.cells.2.2.2.2.2.2
        go_wp2_with fail
        go_loopw [54, 10] (fun s54 _s10 wq => ∃ i : Nat, i ≤ 2 ∧ s54 = .int .i64 (i : Int) ∧ Hid (Ap w1.heap.size g6 g7 gn gp p cn cp w1 wq)) (fun s54 _ _ => 2 - (intOf s54).toNat)
        case atStart => exact ⟨0, by omega, rfl, hA⟩
        case round =>
          obtain ⟨j, hj2, rfl, hA2⟩ := hrel
          clear k6
          by_cases hlt : j < 2
          · have hltI : (j : Int) < 2 := by omega
            obtain ⟨v0, hv0⟩ := hA2.out.2.2.2.2.cell (j := j * 2 + 1) (by omega)
            have hz0 := hA2.out.2.2.2.2.fz (j * 2 + 1)
            have k6 := hA2.out.2.2.1.cells.2.2.2.2.2.2
            go_wp2_with fail
            go_roundw
            case rel => exact ⟨j + 1, by omega, by go_num, hA2.out.p hgp0 _ _⟩
            case measure => first | (simp [intOf]; done) | (simp [intOf]; omega)
          · have hnj : ¬ (j : Int) < 2 := by omega
            have bq := hA2.out.1
            obtain ⟨k0, k1, k2, k3, k4, k5, k6⟩ := (HP4.out.below bq).cells
            obtain ⟨q0, q1, q2, q3, q4, q5, q6⟩ := (HP5.out.below bq).cells
            have n6 := hA2.out.2.1.cells.2.2.2.2.2.2
            have SV := Same_v p (some ⟨ga, 0, none⟩) (some ⟨gk, 0, none⟩) 2 c5 l wr (HR4.out.below bq) (HR5.out.below bq)
            rw [HL.out] at SV
            have HSV := Lib.hid SV
            have HBF := Lib.hid (keep HB4.out bq)
            clear bq SV
            go_wp2_with fail
            refine HSV.out.mono ?_; rintro e w10 ⟨rfl, b10⟩
            have B10 := Lib.hid (keep HBF.out b10)
            clear b10
            go_wp2_with fail
            refine (awake_v _).mono ?_; rintro e w11 ⟨rfl, b11⟩
            have B11 := Lib.hid (keep B10.out b11)
            clear b11
            go_wp2_with fail
            go_ret
            exact ⟨rfl, B11.out⟩
end Go.Proofs.Ytgfcoljkkenacaa.P9
