import Derived.Test.YtpoipkjchnopbaaPrdX
import Derived.Test.YtpoipkjchnopbaaPrd9
import Derived.Test.YtpoipkjchnopbaaSsaG
/- ProductNormal for all inputs: Normalize and Key of the code against the reference's. -/
namespace Go.Proofs.Ytpoipkjchnopbaa.P9
open Go.RowKit Go.Sort C6

/-- a product whose attributes read a list -/
def kNrm (q : Pd) (n : Nat) (m : List Atr) : Value → World → Prop := fun v w => ∃ a c, v = .agg #[.string q.id, .string q.co, .string q.br, .int .i64 q.d, .int .i64 q.c, .int .i64 q.a, .slice a n c] ∧ RdA w a c m
def StB (p : Value → World → Prop) : Prop := ∀ v w w', p v w → Below w.heap.size w w' → p v w'
theorem StB.val (x : Value) : StB (kVal x) := fun _ _ _ h _ => h
theorem StB.nrm (q : Pd) (n : Nat) (m : List Atr) : StB (kNrm q n m) := by
  rintro v w w' ⟨a, c, h1, h2⟩ hE
  exact ⟨a, c, h1, h2.below hE⟩
def StBL : List (Value → World → Prop) → Prop
  | [] => True
  | p :: l => StB p ∧ StBL l
theorem StBL.all : ∀ {l : List (Value → World → Prop)}, StBL l → ∀ p ∈ l, StB p
  | [], _, p, hp => by simp at hp
  | q :: l, h, p, hp => by
    rcases List.mem_cons.1 hp with rfl | hp
    · exact h.1
    · exact h.2.all p hp
theorem RLs.stB {l : List (Value → World → Prop)} (h : ∀ p ∈ l, StB p) (i : Nat) (v : Value) (w w' : World) (hr : RLs l i v w) (hE : Below w.heap.size w w') : RLs l i v w' := by
  unfold RLs at hr ⊢
  rw [List.getD] at hr ⊢
  cases hg : l[i]? with
  | none => trivial
  | some p =>
    rw [hg] at hr
    exact h p (List.mem_of_getElem? hg) v w w' hr hE
def NoR (q : Pd) (n : Nat) (ao aN : Option Addr) (cap cN : Nat) (l : List Atr) (KA : ByteArray) : List (Value → World → Prop) := [kVal (.agg #[.string q.id, .string q.co, .string q.br, .int .i64 q.d, .int .i64 q.c, .int .i64 q.a, .slice aN n cN]), kVal (.agg #[.string q.id, .string q.co, .string q.br, .int .i64 q.d, .int .i64 q.c, .int .i64 q.a, .slice ao n cap]), kNrm q n (isort l), kVal (.bool true), kVal (.bool false), kVal (.bool false), kVal (.agg #[.string q.id, .string q.co, .string q.br, .int .i64 q.d, .int .i64 q.c, .int .i64 q.a, .slice ao n cap]), kVal (.string KA), kVal (.agg #[.string q.id, .string q.co, .string q.br, .int .i64 q.d, .int .i64 q.c, .int .i64 q.a, .slice ao n cap]), kVal (.string KA), kVal (.bool false), kVal (.bool false), kVal (.bool false), kVal (.agg #[.string q.id, .string q.co, .string q.br, .int .i64 q.d, .int .i64 q.c, .int .i64 q.a, .slice aN n cN]), kVal (.string KA), kVal (.agg #[.string q.id, .string q.co, .string q.br, .int .i64 q.d, .int .i64 q.c, .int .i64 q.a, .slice ao n cap]), kVal (.string KA), kVal (.bool false), kVal (.bool false), kVal (.bool false), kVal (.agg #[.string q.id, .string q.co, .string q.br, .int .i64 q.d, .int .i64 q.c, .int .i64 q.a, .slice aN n cN]), kNrm q n (isort l), kVal (.agg #[.string q.id, .string q.co, .string q.br, .int .i64 q.d, .int .i64 q.c, .int .i64 q.a, .slice aN n cN]), kVal (.bool true), kVal (.bool false), kVal (.bool false)]
theorem own_rd {w : World} {base n c : Nat} {a : Option Addr} {m : List Atr} (_hm : m.length = n) (h : w.ownsRow base 42 2 (.slice a n c) n (atv m)) : RdA w a c m := by
  obtain ⟨ao', cp', e', r', _⟩ := RdA.of_row h
  injection e' with e1 _ e3
  rw [e1, e3]; exact r'
theorem Sz.isort {p : Pd} {l : List Atr} (h : Sz p l) : Sz p (isort l) := ⟨h.co, h.br, fun x hx => h.at1 x ((isort_perm l).mem_iff.1 hx)⟩
/-- one of the two products of the law's list -/
def Elt (W : World) (g i : Nat) (q : Pd) (ao : Option Addr) (l : List Atr) (cap : Nat) : Prop :=
  W.cell? ⟨g, i * 7, none⟩ = some (.string q.id) ∧ W.cell? ⟨g, i * 7 + 1, none⟩ = some (.string q.co) ∧ W.cell? ⟨g, i * 7 + 2, none⟩ = some (.string q.br) ∧ W.cell? ⟨g, i * 7 + 3, none⟩ = some (.int .i64 q.d) ∧ W.cell? ⟨g, i * 7 + 4, none⟩ = some (.int .i64 q.c) ∧ W.cell? ⟨g, i * 7 + 5, none⟩ = some (.int .i64 q.a) ∧ W.cell? ⟨g, i * 7 + 6, none⟩ = some (.slice ao l.length cap) ∧ RdA W ao cap l ∧ l.length ≤ 14 ∧ Sz q l
theorem Elt.below {W W' : World} {g i : Nat} {q : Pd} {ao : Option Addr} {l : List Atr} {cap : Nat} (h : Elt W g i q ao l cap) (k : Below W.heap.size W W') : Elt W' g i q ao l cap := by
  obtain ⟨h0, h1, h2, h3, h4, h5, h6, h7, h8, h9⟩ := h
  have hl : g < W.heap.size := World.block_lt_of_cell? _ _ h0
  have cc : ∀ {j : Nat} {v : Value}, W.cell? ⟨g, j, none⟩ = some v → W'.cell? ⟨g, j, none⟩ = some v := fun {j} {v} h => (World.cell?_of_block (a := ⟨g, j, none⟩) (k.block g hl)).trans h
  exact ⟨cc h0, cc h1, cc h2, cc h3, cc h4, cc h5, cc h6, h7.below k, h8, h9⟩

set_option maxHeartbeats 16000000 in
set_option maxRecDepth 100000 in
theorem ProductNormal_any (p0 : Pd) (ao0 : Option Addr) (l0 : List Atr) (cap0 : Nat) (ao1 : Option Addr) (ts : List Int) (cap1 : Nat) (w : World) (hr : RdA w ao0 cap0 l0) (hs : SL l0) (ht : RdZ w ao1 cap1 ts) :
    Calls Try.prog 3 #[.agg #[.string p0.id, .string p0.co, .string p0.br, .int .i64 p0.d, .int .i64 p0.c, .int .i64 p0.a, .slice ao0 l0.length cap0], .slice ao1 ts.length cap1] w fun e w' => e = .returned (.bool true) ∧ Below w.heap.size w w' := by
  obtain ⟨n0, hn0⟩ : ∃ n, n = l0.length := ⟨_, rfl⟩
  obtain ⟨W1, hW1⟩ : ∃ W, W = w.alloc (.cells #[.string p0.id, .string p0.co, .string p0.br, .int .i64 p0.d, .int .i64 p0.c, .int .i64 p0.a, .slice ao0 n0 cap0] 26) := ⟨_, rfl⟩
  obtain ⟨g0, hg0⟩ : ∃ g, g = w.heap.size := ⟨_, rfl⟩
  have b1 : Below w.heap.size w W1 := by rw [hW1]; exact below_new _ _
  have P1 : PB W1 g0 p0 (.slice ao0 n0 cap0) := by rw [hW1, hg0]; exact PB.new _ _ _
  have RW := Lib.hid (by have := raw9_v p0 ao0 cap0 l0 W1 (hr.below b1) hs; rw [← hn0] at this; exact this)
  have T1 := Lib.hid (ht.below b1)
  have HTL := Lib.hid ht.lt
  have HB1 := Lib.hid b1
  have HG0 := Lib.hid hg0
  obtain ⟨n1, hn1⟩ : ∃ n, n = ts.length := ⟨_, rfl⟩
  have HN1 := Lib.hid hn1
  have HS1 : Hid (W1.heap.size = w.heap.size + 1) := by unfold Hid; rw [hW1]; exact World.size_alloc _ _
  rw [← hn0, ← hn1]
  obtain ⟨k0, k1, k2, k3, k4, k5, k6⟩ := P1.cells
  clear hr hs ht b1 P1 hn0 hn1
  go_enter Try.func3, Try.ntmps3
  go_wp2_with fail
  rw [← hW1]
  rw [← hg0]
  clear hW1 hg0 k0 k1 k2 k3 k4 k5 k6
  refine RW.out.mono ?_; rintro e w2 ⟨⟨pA, aA, lA, cA, rfl, hrA, hlA, hsA⟩, b2⟩
  have B2 : Hid (Below w.heap.size w w2) := keep HB1.out b2
  have HRA := Lib.hid hrA
  obtain ⟨nA, hnA⟩ : ∃ n, n = lA.length := ⟨_, rfl⟩
  obtain ⟨B, hB⟩ : ∃ B, B = w2.heap.size := ⟨_, rfl⟩
  obtain ⟨W3, hW3⟩ : ∃ W, W = w2.alloc (.cells #[.slice ao1 n1 cap1, .int .i64 0] 32) := ⟨_, rfl⟩
  have b3 : Below w2.heap.size w2 W3 := by rw [hW3]; exact below_new _ _
  have T3 : Tap W3 B ao1 ts.length cap1 0 := by rw [hW3, hB, ← HN1.out]; exact Tap.new w2 ao1 n1 cap1
  have hs2 := b2.size
  have SP3 := Lib.hid (by have := spoiled9_v B ao1 cap1 ts 0 W3 T3 ((T1.out.below b2).below b3) (fun h0 b o e => by have := HTL.out h0 b o e; have := HS1.out; omega) (by omega); rw [← HN1.out] at this; exact this)
  have B3 : Hid (Below w.heap.size w W3) := keep B2.out b3
  have HRA3 := Lib.hid (HRA.out.below b3)
  have HSA : Hid (lA.length ≤ 14 ∧ Sz pA lA ∧ nA = lA.length) := ⟨hlA, hsA, hnA⟩
  have HBW : Hid (W3.heap.size = B + 1 ∧ w.heap.size ≤ B) := ⟨by rw [hW3, hB]; exact World.size_alloc _ _, by have := B2.out.size; omega⟩
  have HRB : Hid (offB aA lA (fun b => b < B)) := fun h0 b o e => by have := HRA.out.lt h0 b o e; omega
  rw [← hnA]
  clear hrA hlA hsA b2 b3 T3 hs2 hnA
  go_wp2_with fail
  try rw [← hW3]
  try rw [← hB]
  clear hW3 hB
  refine SP3.out.mono ?_; rintro e w4 ⟨pB, bB, cB, lB, rfl, hoB, hlB, hsB, hgB, _⟩
  have RB4 := own_rd rfl hoB
  have RA4 : RdA w4 aA cA lA := HRA3.out.grown (fun h0 b o e q => by have := HRB.out h0 b o e; cases q; omega) hgB
  have hB4 : Below w.heap.size w w4 := by
    have h5 := B3.out
    exact ⟨hgB.os.trans h5.os, hgB.tape.trans h5.tape, hgB.output.trans h5.output, Nat.le_trans h5.size hgB.size, fun k hk => (hgB.block k (Nat.lt_of_lt_of_le hk h5.size) (fun e => by have := Option.some.inj e; have := HBW.out.2; omega)).trans (h5.block k hk)⟩
  obtain ⟨nB, hnB⟩ : ∃ n, n = lB.length := ⟨_, rfl⟩
  obtain ⟨W5, hW5⟩ : ∃ W, W = w4.alloc (.cells #[.string pA.id, .string pA.co, .string pA.br, .int .i64 pA.d, .int .i64 pA.c, .int .i64 pA.a, .slice aA nA cA, .string pB.id, .string pB.co, .string pB.br, .int .i64 pB.d, .int .i64 pB.c, .int .i64 pB.a, .slice (some ⟨bB, 0, none⟩) nB cB] 26) := ⟨_, rfl⟩
  obtain ⟨g5, hg5⟩ : ∃ g, g = w4.heap.size := ⟨_, rfl⟩
  have EL : Hid (∀ i, i < 2 → ∃ q ao l cap, Elt W5 g5 i q ao l cap) := by
    have x5 : W5.heap[g5]? = some (.cells #[.string pA.id, .string pA.co, .string pA.br, .int .i64 pA.d, .int .i64 pA.c, .int .i64 pA.a, .slice aA nA cA, .string pB.id, .string pB.co, .string pB.br, .int .i64 pB.d, .int .i64 pB.c, .int .i64 pB.a, .slice (some ⟨bB, 0, none⟩) nB cB] 26 (0, 0)) := by rw [hW5, hg5]; exact heap_alloc_new _ _
    have b5 : Below w4.heap.size w4 W5 := by rw [hW5]; exact below_new _ _
    intro i hi
    have : i = 0 ∨ i = 1 := by omega
    rcases this with rfl | rfl
    · exact ⟨pA, aA, lA, cA, cell_in x5 rfl, cell_in x5 rfl, cell_in x5 rfl, cell_in x5 rfl, cell_in x5 rfl, cell_in x5 rfl, by rw [← HSA.out.2.2]; exact cell_in x5 rfl, RA4.below b5, HSA.out.1, HSA.out.2.1⟩
    · exact ⟨pB, some ⟨bB, 0, none⟩, lB, cB, cell_in x5 rfl, cell_in x5 rfl, cell_in x5 rfl, cell_in x5 rfl, cell_in x5 rfl, cell_in x5 rfl, by rw [← hnB]; exact cell_in x5 rfl, RB4.below b5, hlB, hsB⟩
  have B5 : Hid (Below w.heap.size w W5) := by rw [hW5]; exact keep hB4 (below_new _ _)
  rw [← hnB]
  clear hoB hlB hsB hgB RB4 RA4 hB4 HSA hnB HRA3 HRB SP3 T1 HRA RW
  go_wp2_with fail
  try rw [← hW5]
  try rw [← hg5]
  clear hW5 hg5
  go_loopw [16] (fun s16 wr => ∃ i : Nat, i ≤ 2 ∧ s16 = .int .i64 (i : Int) ∧ Hid (Below W5.heap.size W5 wr)) (fun s16 _ => 2 - (intOf s16).toNat)
  case atStart => exact ⟨0, by omega, rfl, Below.refl _ _⟩
  case round =>
    obtain ⟨i, hi2, rfl, hbl⟩ := hrel
    by_cases hlt : i < 2
    · have hlt2 : (i : Int) < 2 := by omega
      obtain ⟨q, ao, l, cap, hE⟩ := EL.out i hlt
      have hE := hE.below hbl.out
      obtain ⟨c0, c1, c2, c3, c4, c5, c6, hrd, hl14, hsz⟩ := hE
      obtain ⟨n, hn⟩ : ∃ n, n = l.length := ⟨_, rfl⟩
      rw [← hn] at c6
      obtain ⟨W6, hW6⟩ : ∃ W, W = wr.alloc (.cells #[.string q.id, .string q.co, .string q.br, .int .i64 q.d, .int .i64 q.c, .int .i64 q.a, .slice ao n cap] 26) := ⟨_, rfl⟩
      obtain ⟨g6, hg6⟩ : ∃ g, g = wr.heap.size := ⟨_, rfl⟩
      have b6 : Below wr.heap.size wr W6 := by rw [hW6]; exact below_new _ _
      have P6 : PB W6 g6 q (.slice ao n cap) := by rw [hW6, hg6]; exact PB.new _ _ _
      have R6 : RdA W6 ao cap l := hrd.below b6
      have NV := Lib.hid (by have := Normalize_v q ao cap l W6 R6 (by omega); unfold NPost at this; rw [← hn] at this; exact this)
      have HP6 := Lib.hid P6
      have HR6 := Lib.hid R6
      have HB6 : Hid (Below W5.heap.size W5 W6) := keep hbl.out b6
      have HNL : Hid (n = l.length ∧ l.length ≤ 14 ∧ Sz q l) := ⟨hn, hl14, hsz⟩
      clear hrd hl14 hsz b6 P6 R6 hbl hn
      go_upto_region 4 with fail
      rw [← hW6]
      try rw [← hg6]
      clear hW6 hg6 c0 c1 c2 c3 c4 c5 c6
      obtain ⟨k0, k1, k2, k3, k4, k5, k6⟩ := HP6.out.cells
      go_wp2_with fail
      refine NV.out.mono ?_; rintro e w7 ⟨aN, cN, rfl, hown, b7⟩
      clear k0 k1 k2 k3 k4 k5 k6
      have hnl : (isort l).length = n := by rw [isort_length]; exact HNL.out.1.symm
      have RN7 := own_rd hnl hown
      obtain ⟨W7, hW7⟩ : ∃ W, W = w7.alloc (.cells #[.string q.id, .string q.co, .string q.br, .int .i64 q.d, .int .i64 q.c, .int .i64 q.a, .slice aN n cN] 26) := ⟨_, rfl⟩
      obtain ⟨g7, hg7⟩ : ∃ g, g = w7.heap.size := ⟨_, rfl⟩
      have b8 : Below w7.heap.size w7 W7 := by rw [hW7]; exact below_new _ _
      have P7 : Hid (PB W7 g7 q (.slice aN n cN)) := by rw [hW7, hg7]; exact PB.new _ _ _
      have P67 : Hid (PB W7 g6 q (.slice ao n cap)) := (HP6.out.below b7).below b8
      have RN : Hid (RdA W7 aN cN (isort l)) := RN7.below b8
      have RX : Hid (RdA W7 ao cap l) := (HR6.out.below b7).below b8
      have HB7 : Hid (Below W5.heap.size W5 W7) := keep (keep HB6.out b7) b8
      clear hown b7 RN7 b8
      go_upto_region 5 with fail
      rw [← hW7]
      try rw [← hg7]
      clear hW7 hg7
      have hl19 : l.length ≤ 19 := by have := HNL.out.2.1; omega
      have hl19' : (isort l).length ≤ 19 := by rw [isort_length]; exact hl19
      have hid2 : isort (isort l) = isort l := isort_idem l
      obtain ⟨KA, hKA⟩ : ∃ x, x = keyB q l := ⟨_, rfl⟩
      have hKN : keyB q (isort l) = KA := by rw [hKA]; unfold keyB; rw [hid2]
      have hn2 := HNL.out.1
      have CRN : Hid (∀ W', Below W7.heap.size W7 W' → Calls Try.prog 10 #[.agg #[.string q.id, .string q.co, .string q.br, .int .i64 q.d, .int .i64 q.c, .int .i64 q.a, .slice ao n cap]] W' fun e w' => (∃ (a : Option Addr) (c : Nat), e = .returned (.agg #[.string q.id, .string q.co, .string q.br, .int .i64 q.d, .int .i64 q.c, .int .i64 q.a, .slice a n c]) ∧ RdA w' a c (isort l)) ∧ Below W'.heap.size W' w') := fun W' hb => by
        have := rNormalize_v q ao cap l W' (RX.out.below hb) (by omega)
        unfold NPost at this
        rw [← hn2] at this
        refine this.mono ?_
        rintro e w' ⟨a, c, rfl, ho, hb'⟩
        exact ⟨⟨a, c, rfl, own_rd hnl ho⟩, hb'⟩
      have CNN : Hid (∀ W', Below W7.heap.size W7 W' → Calls Try.prog 8 #[.agg #[.string q.id, .string q.co, .string q.br, .int .i64 q.d, .int .i64 q.c, .int .i64 q.a, .slice aN n cN]] W' fun e w' => (∃ (a : Option Addr) (c : Nat), e = .returned (.agg #[.string q.id, .string q.co, .string q.br, .int .i64 q.d, .int .i64 q.c, .int .i64 q.a, .slice a n c]) ∧ RdA w' a c (isort l)) ∧ Below W'.heap.size W' w') := fun W' hb => by
        have := Normalize_v q aN cN (isort l) W' (RN.out.below hb) hl19'
        unfold NPost at this
        rw [hnl] at this
        refine this.mono ?_
        rintro e w' ⟨a, c, rfl, ho, hb'⟩
        rw [hid2] at ho
        exact ⟨⟨a, c, rfl, own_rd hnl ho⟩, hb'⟩
      have CKX : Hid (∀ W', Below W7.heap.size W7 W' → Calls Try.prog 11 #[.agg #[.string q.id, .string q.co, .string q.br, .int .i64 q.d, .int .i64 q.c, .int .i64 q.a, .slice ao n cap]] W' fun e w' => e = .returned (.string KA) ∧ Below W'.heap.size W' w') := fun W' hb => by
        have := Key_v q ao cap l W' (RX.out.below hb) hl19 HNL.out.2.2
        rw [← hn2, ← hKA] at this
        exact this
      have CRK : Hid (∀ W', Below W7.heap.size W7 W' → Calls Try.prog 12 #[.agg #[.string q.id, .string q.co, .string q.br, .int .i64 q.d, .int .i64 q.c, .int .i64 q.a, .slice ao n cap]] W' fun e w' => e = .returned (.string KA) ∧ Below W'.heap.size W' w') := fun W' hb => by
        have := rKey_v q ao cap l W' (RX.out.below hb) hl19 HNL.out.2.2
        rw [← hn2, ← hKA] at this
        exact this
      have CKN : Hid (∀ W', Below W7.heap.size W7 W' → Calls Try.prog 11 #[.agg #[.string q.id, .string q.co, .string q.br, .int .i64 q.d, .int .i64 q.c, .int .i64 q.a, .slice aN n cN]] W' fun e w' => e = .returned (.string KA) ∧ Below W'.heap.size W' w') := fun W' hb => by
        have := Key_v q aN cN (isort l) W' (RN.out.below hb) hl19' HNL.out.2.2.isort
        rw [hnl, hKN] at this
        exact this
      have CS : Hid (∀ (W' : World) (a : Option Addr) (c : Nat) (b : Option Addr) (d : Nat), RdA W' a c (isort l) → RdA W' b d (isort l) → Calls Try.prog 9 #[.agg #[.string q.id, .string q.co, .string q.br, .int .i64 q.d, .int .i64 q.c, .int .i64 q.a, .slice a n c], .agg #[.string q.id, .string q.co, .string q.br, .int .i64 q.d, .int .i64 q.c, .int .i64 q.a, .slice b n d]] W' fun e w' => e = .returned (.bool true) ∧ Below W'.heap.size W' w') := fun W' a c b d h1 h2 => by
        have := Same_v q a b c d (isort l) W' h1 h2
        rw [hnl] at this
        exact this
      have pb6 : ∀ {w1 : World}, Below W7.heap.size W7 w1 → PB w1 g6 q (.slice ao n cap) := fun h => P67.out.below h
      have pb7 : ∀ {w1 : World}, Below W7.heap.size W7 w1 → PB w1 g7 q (.slice aN n cN) := fun h => P7.out.below h
      have rdN : ∀ {w1 : World}, Below W7.heap.size W7 w1 → RdA w1 aN cN (isort l) := fun h => RN.out.below h
      clear hKA hKN hn2 hid2 hl19 hl19' hnl NV
      refine wp_region_any (by kernel_rfl) ?_
      refine region_ssa [22, 23, 24, 25, 26, 27, 28, 29, 30, 31, 32, 33, 34, 35, 36, 37, 38, 39, 40, 41, 42, 43, 44, 45, 46, 47] (Below W7.heap.size W7) (fun w1 w2 => Below w1.heap.size w1 w2) (RLs (NoR q n ao aN cap cN l KA)) (fun _ _ _ => True) (fun f => rfl) (by kernel_rfl) (by kernel_rfl) ?_ ?_ ?_ ?_ (stepG_below (n := 26) ?_) ?_
      · exact (Below.refl _ _).drew
      · intro _; trivial
      · intro i v w1 w2 _ h hE; exact RLs.stB (StBL.all (l := NoR q n ao aN cap cN l KA) ⟨StB.val _, StB.val _, StB.nrm _ _ _, StB.val _, StB.val _, StB.val _, StB.val _, StB.val _, StB.val _, StB.val _, StB.val _, StB.val _, StB.val _, StB.val _, StB.val _, StB.val _, StB.val _, StB.val _, StB.val _, StB.val _, StB.val _, StB.nrm _ _ _, StB.val _, StB.val _, StB.val _, StB.val _, trivial⟩) i v w1 w2 h hE
      · intro w1 w2 hB hE; exact hB.trans (hE.mono hB.size)
      · refine AllF.step (m := 25) (j := 1) rfl ?_ ?_
        · intro D f w1 hD hB hR hp hcl hX
          obtain ⟨k0, k1, k2, k3, k4, k5, k6⟩ := (pb7 hB).cells
          have HX := Lib.hid hX
          have HC := Lib.hid hcl
          have HB := Lib.hid hB
          have HD := Lib.hid hD
          clear hX hcl hB hD hR hp
          refine WpO.step rfl (fun K hK => ?_)
          simp only [putAll, Act.put, List.setIfInBounds_toArray, List.set_cons_succ, List.set_cons_zero]
          go_simp
          exact hK _ _ ⟨.agg #[.string q.id, .string q.co, .string q.br, .int .i64 q.d, .int .i64 q.c, .int .i64 q.a, .slice aN n cN], (by show _ = Act.put _ (some 22) _; simp only [putAll, Act.put, List.setIfInBounds_toArray, List.set_cons_succ, List.set_cons_zero, *]; all_goals rfl), rfl, Below.refl _ _, trivial⟩
        refine AllF.step (m := 24) (j := 2) rfl ?_ ?_
        · intro D f w1 hD hB hR hp hcl hX
          obtain ⟨k0, k1, k2, k3, k4, k5, k6⟩ := (pb6 hB).cells
          have HX := Lib.hid hX
          have HC := Lib.hid hcl
          have HB := Lib.hid hB
          have HD := Lib.hid hD
          clear hX hcl hB hD hR hp
          refine WpO.step rfl (fun K hK => ?_)
          simp only [putAll, Act.put, List.setIfInBounds_toArray, List.set_cons_succ, List.set_cons_zero]
          go_simp
          exact hK _ _ ⟨.agg #[.string q.id, .string q.co, .string q.br, .int .i64 q.d, .int .i64 q.c, .int .i64 q.a, .slice ao n cap], (by show _ = Act.put _ (some 23) _; simp only [putAll, Act.put, List.setIfInBounds_toArray, List.set_cons_succ, List.set_cons_zero, *]; all_goals rfl), rfl, Below.refl _ _, trivial⟩
        refine AllF.step (m := 23) (j := 3) rfl ?_ ?_
        · intro D f w1 hD hB hR hp hcl hX
          have e1 : f 23 = .agg #[.string q.id, .string q.co, .string q.br, .int .i64 q.d, .int .i64 q.c, .int .i64 q.a, .slice ao n cap] := (hpAt hp 1 (by kernel_rfl)).2
          have HX := Lib.hid hX
          have HC := Lib.hid hcl
          have HB := Lib.hid hB
          have HD := Lib.hid hD
          clear hX hcl hB hD hR hp
          refine WpO.step rfl (fun K hK => ?_)
          simp only [putAll, Act.put, List.setIfInBounds_toArray, List.set_cons_succ, List.set_cons_zero]
          go_simp
          refine (CRN.out w1 HB.out).mono ?_; rintro e w2 ⟨⟨a, c, rfl, hra⟩, b2⟩
          go_simp
          exact hK _ _ ⟨.agg #[.string q.id, .string q.co, .string q.br, .int .i64 q.d, .int .i64 q.c, .int .i64 q.a, .slice a n c], (by show _ = Act.put _ (some 24) _; simp only [putAll, Act.put, List.setIfInBounds_toArray, List.set_cons_succ, List.set_cons_zero, *]; all_goals rfl), ⟨a, c, rfl, hra⟩, b2, trivial⟩
        refine AllF.step (m := 22) (j := 4) rfl ?_ ?_
        · intro D f w1 hD hB hR hp hcl hX
          have e0 : f 22 = .agg #[.string q.id, .string q.co, .string q.br, .int .i64 q.d, .int .i64 q.c, .int .i64 q.a, .slice aN n cN] := (hpAt hp 0 (by kernel_rfl)).2
          obtain ⟨a, c, e2, hra⟩ := (hpAt hp 2 (by kernel_rfl)).2
          replace e2 : f 24 = _ := e2
          have hrn := rdN hB
          have HX := Lib.hid hX
          have HC := Lib.hid hcl
          have HB := Lib.hid hB
          have HD := Lib.hid hD
          clear hX hcl hB hD hR hp
          refine WpO.step rfl (fun K hK => ?_)
          simp only [putAll, Act.put, List.setIfInBounds_toArray, List.set_cons_succ, List.set_cons_zero]
          go_simp
          refine (CS.out w1 aN cN a c hrn hra).mono ?_; rintro e w2 ⟨rfl, b2⟩
          go_simp
          exact hK _ _ ⟨.bool true, (by show _ = Act.put _ (some 25) _; simp only [putAll, Act.put, List.setIfInBounds_toArray, List.set_cons_succ, List.set_cons_zero, *]; all_goals rfl), rfl, b2, trivial⟩
        refine AllF.step (m := 21) (j := 5) rfl ?_ ?_
        · intro D f w1 hD hB hR hp hcl hX
          have e3 : f 25 = .bool true := (hpAt hp 3 (by kernel_rfl)).2
          have HX := Lib.hid hX
          have HC := Lib.hid hcl
          have HB := Lib.hid hB
          have HD := Lib.hid hD
          clear hX hcl hB hD hR hp
          refine WpO.step rfl (fun K hK => ?_)
          simp only [putAll, Act.put, List.setIfInBounds_toArray, List.set_cons_succ, List.set_cons_zero]
          go_simp
          exact hK _ _ ⟨.bool false, (by show _ = Act.put _ (some 26) _; simp only [putAll, Act.put, List.setIfInBounds_toArray, List.set_cons_succ, List.set_cons_zero, *]; all_goals rfl), rfl, Below.refl _ _, trivial⟩
        refine AllF.step (m := 20) (j := 6) rfl ?_ ?_
        · intro D f w1 hD hB hR hp hcl hX
          have e4 : f 26 = .bool false := (hpAt hp 4 (by kernel_rfl)).2
          have HX := Lib.hid hX
          have HC := Lib.hid hcl
          have HB := Lib.hid hB
          have HD := Lib.hid hD
          clear hX hcl hB hD hR hp
          refine WpO.step rfl (fun K hK => ?_)
          simp only [putAll, Act.put, List.setIfInBounds_toArray, List.set_cons_succ, List.set_cons_zero]
          go_simp
          exact hK _ _ ⟨.bool false, (by show _ = Act.put _ (some 27) _; simp only [putAll, Act.put, List.setIfInBounds_toArray, List.set_cons_succ, List.set_cons_zero, *]; all_goals rfl), rfl, Below.refl _ _, trivial⟩
        refine AllF.step (m := 19) (j := 7) rfl ?_ ?_
        · intro D f w1 hD hB hR hp hcl hX
          have e5 : f 27 = .bool false := (hpAt hp 5 (by kernel_rfl)).2
          obtain ⟨k0, k1, k2, k3, k4, k5, k6⟩ := (pb6 hB).cells
          have HX := Lib.hid hX
          have HC := Lib.hid hcl
          have HB := Lib.hid hB
          have HD := Lib.hid hD
          clear hX hcl hB hD hR hp
          refine WpO.guarded 5 27 false rfl rfl rfl (by kernel_rfl) (by kernel_rfl) e5 (fun K hK => ?_)
          simp only [putAll, Act.put, List.setIfInBounds_toArray, List.set_cons_succ, List.set_cons_zero]
          go_simp
          exact hK _ _ ⟨.agg #[.string q.id, .string q.co, .string q.br, .int .i64 q.d, .int .i64 q.c, .int .i64 q.a, .slice ao n cap], (by show _ = Act.put _ (some 28) _; simp only [putAll, Act.put, List.setIfInBounds_toArray, List.set_cons_succ, List.set_cons_zero, *]; all_goals rfl), rfl, Below.refl _ _, trivial⟩
        refine AllF.step (m := 18) (j := 8) rfl ?_ ?_
        · intro D f w1 hD hB hR hp hcl hX
          have e6 : f 28 = .agg #[.string q.id, .string q.co, .string q.br, .int .i64 q.d, .int .i64 q.c, .int .i64 q.a, .slice ao n cap] := (hpAt hp 6 (by kernel_rfl)).2
          have e5 : f 27 = .bool false := (hpAt hp 5 (by kernel_rfl)).2
          have HX := Lib.hid hX
          have HC := Lib.hid hcl
          have HB := Lib.hid hB
          have HD := Lib.hid hD
          clear hX hcl hB hD hR hp
          refine WpO.guarded 5 27 false rfl rfl rfl (by kernel_rfl) (by kernel_rfl) e5 (fun K hK => ?_)
          simp only [putAll, Act.put, List.setIfInBounds_toArray, List.set_cons_succ, List.set_cons_zero]
          go_simp
          refine (CKX.out w1 HB.out).mono ?_; rintro e w2 ⟨rfl, b2⟩
          go_simp
          exact hK _ _ ⟨.string KA, (by show _ = Act.put _ (some 29) _; simp only [putAll, Act.put, List.setIfInBounds_toArray, List.set_cons_succ, List.set_cons_zero, *]; all_goals rfl), rfl, b2, trivial⟩
        refine AllF.step (m := 17) (j := 9) rfl ?_ ?_
        · intro D f w1 hD hB hR hp hcl hX
          have e5 : f 27 = .bool false := (hpAt hp 5 (by kernel_rfl)).2
          obtain ⟨k0, k1, k2, k3, k4, k5, k6⟩ := (pb6 hB).cells
          have HX := Lib.hid hX
          have HC := Lib.hid hcl
          have HB := Lib.hid hB
          have HD := Lib.hid hD
          clear hX hcl hB hD hR hp
          refine WpO.guarded 5 27 false rfl rfl rfl (by kernel_rfl) (by kernel_rfl) e5 (fun K hK => ?_)
          simp only [putAll, Act.put, List.setIfInBounds_toArray, List.set_cons_succ, List.set_cons_zero]
          go_simp
          exact hK _ _ ⟨.agg #[.string q.id, .string q.co, .string q.br, .int .i64 q.d, .int .i64 q.c, .int .i64 q.a, .slice ao n cap], (by show _ = Act.put _ (some 30) _; simp only [putAll, Act.put, List.setIfInBounds_toArray, List.set_cons_succ, List.set_cons_zero, *]; all_goals rfl), rfl, Below.refl _ _, trivial⟩
        refine AllF.step (m := 16) (j := 10) rfl ?_ ?_
        · intro D f w1 hD hB hR hp hcl hX
          have e8 : f 30 = .agg #[.string q.id, .string q.co, .string q.br, .int .i64 q.d, .int .i64 q.c, .int .i64 q.a, .slice ao n cap] := (hpAt hp 8 (by kernel_rfl)).2
          have e5 : f 27 = .bool false := (hpAt hp 5 (by kernel_rfl)).2
          have HX := Lib.hid hX
          have HC := Lib.hid hcl
          have HB := Lib.hid hB
          have HD := Lib.hid hD
          clear hX hcl hB hD hR hp
          refine WpO.guarded 5 27 false rfl rfl rfl (by kernel_rfl) (by kernel_rfl) e5 (fun K hK => ?_)
          simp only [putAll, Act.put, List.setIfInBounds_toArray, List.set_cons_succ, List.set_cons_zero]
          go_simp
          refine (CRK.out w1 HB.out).mono ?_; rintro e w2 ⟨rfl, b2⟩
          go_simp
          exact hK _ _ ⟨.string KA, (by show _ = Act.put _ (some 31) _; simp only [putAll, Act.put, List.setIfInBounds_toArray, List.set_cons_succ, List.set_cons_zero, *]; all_goals rfl), rfl, b2, trivial⟩
        refine AllF.step (m := 15) (j := 11) rfl ?_ ?_
        · intro D f w1 hD hB hR hp hcl hX
          have e7 : f 29 = .string KA := (hpAt hp 7 (by kernel_rfl)).2
          have e9 : f 31 = .string KA := (hpAt hp 9 (by kernel_rfl)).2
          have e5 : f 27 = .bool false := (hpAt hp 5 (by kernel_rfl)).2
          have ekk := eqs KA
          have HX := Lib.hid hX
          have HC := Lib.hid hcl
          have HB := Lib.hid hB
          have HD := Lib.hid hD
          clear hX hcl hB hD hR hp
          refine WpO.guarded 5 27 false rfl rfl rfl (by kernel_rfl) (by kernel_rfl) e5 (fun K hK => ?_)
          simp only [putAll, Act.put, List.setIfInBounds_toArray, List.set_cons_succ, List.set_cons_zero]
          go_simp
          exact hK _ _ ⟨.bool false, (by show _ = Act.put _ (some 32) _; simp only [putAll, Act.put, List.setIfInBounds_toArray, List.set_cons_succ, List.set_cons_zero, *]; all_goals rfl), rfl, Below.refl _ _, trivial⟩
        refine AllF.step (m := 14) (j := 12) rfl ?_ ?_
        · intro D f w1 hD hB hR hp hcl hX
          have e5 : f 27 = .bool false := (hpAt hp 5 (by kernel_rfl)).2
          have e10 : f 32 = .bool false := (hpAt hp 10 (by kernel_rfl)).2
          have HX := Lib.hid hX
          have HC := Lib.hid hcl
          have HB := Lib.hid hB
          have HD := Lib.hid hD
          clear hX hcl hB hD hR hp
          refine WpO.step rfl (fun K hK => ?_)
          simp only [putAll, Act.put, List.setIfInBounds_toArray, List.set_cons_succ, List.set_cons_zero]
          go_simp
          exact hK _ _ ⟨.bool false, (by show _ = Act.put _ (some 33) _; simp only [putAll, Act.put, List.setIfInBounds_toArray, List.set_cons_succ, List.set_cons_zero, *]; all_goals rfl), rfl, Below.refl _ _, trivial⟩
        refine AllF.step (m := 13) (j := 13) rfl ?_ ?_
        · intro D f w1 hD hB hR hp hcl hX
          have e11 : f 33 = .bool false := (hpAt hp 11 (by kernel_rfl)).2
          have HX := Lib.hid hX
          have HC := Lib.hid hcl
          have HB := Lib.hid hB
          have HD := Lib.hid hD
          clear hX hcl hB hD hR hp
          refine WpO.step rfl (fun K hK => ?_)
          simp only [putAll, Act.put, List.setIfInBounds_toArray, List.set_cons_succ, List.set_cons_zero]
          go_simp
          exact hK _ _ ⟨.bool false, (by show _ = Act.put _ (some 34) _; simp only [putAll, Act.put, List.setIfInBounds_toArray, List.set_cons_succ, List.set_cons_zero, *]; all_goals rfl), rfl, Below.refl _ _, trivial⟩
        refine AllF.step (m := 12) (j := 14) rfl ?_ ?_
        · intro D f w1 hD hB hR hp hcl hX
          have e12 : f 34 = .bool false := (hpAt hp 12 (by kernel_rfl)).2
          obtain ⟨k0, k1, k2, k3, k4, k5, k6⟩ := (pb7 hB).cells
          have HX := Lib.hid hX
          have HC := Lib.hid hcl
          have HB := Lib.hid hB
          have HD := Lib.hid hD
          clear hX hcl hB hD hR hp
          refine WpO.guarded 12 34 false rfl rfl rfl (by kernel_rfl) (by kernel_rfl) e12 (fun K hK => ?_)
          simp only [putAll, Act.put, List.setIfInBounds_toArray, List.set_cons_succ, List.set_cons_zero]
          go_simp
          exact hK _ _ ⟨.agg #[.string q.id, .string q.co, .string q.br, .int .i64 q.d, .int .i64 q.c, .int .i64 q.a, .slice aN n cN], (by show _ = Act.put _ (some 35) _; simp only [putAll, Act.put, List.setIfInBounds_toArray, List.set_cons_succ, List.set_cons_zero, *]; all_goals rfl), rfl, Below.refl _ _, trivial⟩
        refine AllF.step (m := 11) (j := 15) rfl ?_ ?_
        · intro D f w1 hD hB hR hp hcl hX
          have e13 : f 35 = .agg #[.string q.id, .string q.co, .string q.br, .int .i64 q.d, .int .i64 q.c, .int .i64 q.a, .slice aN n cN] := (hpAt hp 13 (by kernel_rfl)).2
          have e12 : f 34 = .bool false := (hpAt hp 12 (by kernel_rfl)).2
          have HX := Lib.hid hX
          have HC := Lib.hid hcl
          have HB := Lib.hid hB
          have HD := Lib.hid hD
          clear hX hcl hB hD hR hp
          refine WpO.guarded 12 34 false rfl rfl rfl (by kernel_rfl) (by kernel_rfl) e12 (fun K hK => ?_)
          simp only [putAll, Act.put, List.setIfInBounds_toArray, List.set_cons_succ, List.set_cons_zero]
          go_simp
          refine (CKN.out w1 HB.out).mono ?_; rintro e w2 ⟨rfl, b2⟩
          go_simp
          exact hK _ _ ⟨.string KA, (by show _ = Act.put _ (some 36) _; simp only [putAll, Act.put, List.setIfInBounds_toArray, List.set_cons_succ, List.set_cons_zero, *]; all_goals rfl), rfl, b2, trivial⟩
        refine AllF.step (m := 10) (j := 16) rfl ?_ ?_
        · intro D f w1 hD hB hR hp hcl hX
          have e12 : f 34 = .bool false := (hpAt hp 12 (by kernel_rfl)).2
          obtain ⟨k0, k1, k2, k3, k4, k5, k6⟩ := (pb6 hB).cells
          have HX := Lib.hid hX
          have HC := Lib.hid hcl
          have HB := Lib.hid hB
          have HD := Lib.hid hD
          clear hX hcl hB hD hR hp
          refine WpO.guarded 12 34 false rfl rfl rfl (by kernel_rfl) (by kernel_rfl) e12 (fun K hK => ?_)
          simp only [putAll, Act.put, List.setIfInBounds_toArray, List.set_cons_succ, List.set_cons_zero]
          go_simp
          exact hK _ _ ⟨.agg #[.string q.id, .string q.co, .string q.br, .int .i64 q.d, .int .i64 q.c, .int .i64 q.a, .slice ao n cap], (by show _ = Act.put _ (some 37) _; simp only [putAll, Act.put, List.setIfInBounds_toArray, List.set_cons_succ, List.set_cons_zero, *]; all_goals rfl), rfl, Below.refl _ _, trivial⟩
        refine AllF.step (m := 9) (j := 17) rfl ?_ ?_
        · intro D f w1 hD hB hR hp hcl hX
          have e15 : f 37 = .agg #[.string q.id, .string q.co, .string q.br, .int .i64 q.d, .int .i64 q.c, .int .i64 q.a, .slice ao n cap] := (hpAt hp 15 (by kernel_rfl)).2
          have e12 : f 34 = .bool false := (hpAt hp 12 (by kernel_rfl)).2
          have HX := Lib.hid hX
          have HC := Lib.hid hcl
          have HB := Lib.hid hB
          have HD := Lib.hid hD
          clear hX hcl hB hD hR hp
          refine WpO.guarded 12 34 false rfl rfl rfl (by kernel_rfl) (by kernel_rfl) e12 (fun K hK => ?_)
          simp only [putAll, Act.put, List.setIfInBounds_toArray, List.set_cons_succ, List.set_cons_zero]
          go_simp
          refine (CKX.out w1 HB.out).mono ?_; rintro e w2 ⟨rfl, b2⟩
          go_simp
          exact hK _ _ ⟨.string KA, (by show _ = Act.put _ (some 38) _; simp only [putAll, Act.put, List.setIfInBounds_toArray, List.set_cons_succ, List.set_cons_zero, *]; all_goals rfl), rfl, b2, trivial⟩
        refine AllF.step (m := 8) (j := 18) rfl ?_ ?_
        · intro D f w1 hD hB hR hp hcl hX
          have e14 : f 36 = .string KA := (hpAt hp 14 (by kernel_rfl)).2
          have e16 : f 38 = .string KA := (hpAt hp 16 (by kernel_rfl)).2
          have e12 : f 34 = .bool false := (hpAt hp 12 (by kernel_rfl)).2
          have ekk := eqs KA
          have HX := Lib.hid hX
          have HC := Lib.hid hcl
          have HB := Lib.hid hB
          have HD := Lib.hid hD
          clear hX hcl hB hD hR hp
          refine WpO.guarded 12 34 false rfl rfl rfl (by kernel_rfl) (by kernel_rfl) e12 (fun K hK => ?_)
          simp only [putAll, Act.put, List.setIfInBounds_toArray, List.set_cons_succ, List.set_cons_zero]
          go_simp
          exact hK _ _ ⟨.bool false, (by show _ = Act.put _ (some 39) _; simp only [putAll, Act.put, List.setIfInBounds_toArray, List.set_cons_succ, List.set_cons_zero, *]; all_goals rfl), rfl, Below.refl _ _, trivial⟩
        refine AllF.step (m := 7) (j := 19) rfl ?_ ?_
        · intro D f w1 hD hB hR hp hcl hX
          have e12 : f 34 = .bool false := (hpAt hp 12 (by kernel_rfl)).2
          have e17 : f 39 = .bool false := (hpAt hp 17 (by kernel_rfl)).2
          have HX := Lib.hid hX
          have HC := Lib.hid hcl
          have HB := Lib.hid hB
          have HD := Lib.hid hD
          clear hX hcl hB hD hR hp
          refine WpO.step rfl (fun K hK => ?_)
          simp only [putAll, Act.put, List.setIfInBounds_toArray, List.set_cons_succ, List.set_cons_zero]
          go_simp
          exact hK _ _ ⟨.bool false, (by show _ = Act.put _ (some 40) _; simp only [putAll, Act.put, List.setIfInBounds_toArray, List.set_cons_succ, List.set_cons_zero, *]; all_goals rfl), rfl, Below.refl _ _, trivial⟩
        refine AllF.step (m := 6) (j := 20) rfl ?_ ?_
        · intro D f w1 hD hB hR hp hcl hX
          have e18 : f 40 = .bool false := (hpAt hp 18 (by kernel_rfl)).2
          have HX := Lib.hid hX
          have HC := Lib.hid hcl
          have HB := Lib.hid hB
          have HD := Lib.hid hD
          clear hX hcl hB hD hR hp
          refine WpO.step rfl (fun K hK => ?_)
          simp only [putAll, Act.put, List.setIfInBounds_toArray, List.set_cons_succ, List.set_cons_zero]
          go_simp
          exact hK _ _ ⟨.bool false, (by show _ = Act.put _ (some 41) _; simp only [putAll, Act.put, List.setIfInBounds_toArray, List.set_cons_succ, List.set_cons_zero, *]; all_goals rfl), rfl, Below.refl _ _, trivial⟩
        refine AllF.step (m := 5) (j := 21) rfl ?_ ?_
        · intro D f w1 hD hB hR hp hcl hX
          have e19 : f 41 = .bool false := (hpAt hp 19 (by kernel_rfl)).2
          obtain ⟨k0, k1, k2, k3, k4, k5, k6⟩ := (pb7 hB).cells
          have HX := Lib.hid hX
          have HC := Lib.hid hcl
          have HB := Lib.hid hB
          have HD := Lib.hid hD
          clear hX hcl hB hD hR hp
          refine WpO.guarded 19 41 false rfl rfl rfl (by kernel_rfl) (by kernel_rfl) e19 (fun K hK => ?_)
          simp only [putAll, Act.put, List.setIfInBounds_toArray, List.set_cons_succ, List.set_cons_zero]
          go_simp
          exact hK _ _ ⟨.agg #[.string q.id, .string q.co, .string q.br, .int .i64 q.d, .int .i64 q.c, .int .i64 q.a, .slice aN n cN], (by show _ = Act.put _ (some 42) _; simp only [putAll, Act.put, List.setIfInBounds_toArray, List.set_cons_succ, List.set_cons_zero, *]; all_goals rfl), rfl, Below.refl _ _, trivial⟩
        refine AllF.step (m := 4) (j := 22) rfl ?_ ?_
        · intro D f w1 hD hB hR hp hcl hX
          have e20 : f 42 = .agg #[.string q.id, .string q.co, .string q.br, .int .i64 q.d, .int .i64 q.c, .int .i64 q.a, .slice aN n cN] := (hpAt hp 20 (by kernel_rfl)).2
          have e19 : f 41 = .bool false := (hpAt hp 19 (by kernel_rfl)).2
          have HX := Lib.hid hX
          have HC := Lib.hid hcl
          have HB := Lib.hid hB
          have HD := Lib.hid hD
          clear hX hcl hB hD hR hp
          refine WpO.guarded 19 41 false rfl rfl rfl (by kernel_rfl) (by kernel_rfl) e19 (fun K hK => ?_)
          simp only [putAll, Act.put, List.setIfInBounds_toArray, List.set_cons_succ, List.set_cons_zero]
          go_simp
          refine (CNN.out w1 HB.out).mono ?_; rintro e w2 ⟨⟨a, c, rfl, hra⟩, b2⟩
          go_simp
          exact hK _ _ ⟨.agg #[.string q.id, .string q.co, .string q.br, .int .i64 q.d, .int .i64 q.c, .int .i64 q.a, .slice a n c], (by show _ = Act.put _ (some 43) _; simp only [putAll, Act.put, List.setIfInBounds_toArray, List.set_cons_succ, List.set_cons_zero, *]; all_goals rfl), ⟨a, c, rfl, hra⟩, b2, trivial⟩
        refine AllF.step (m := 3) (j := 23) rfl ?_ ?_
        · intro D f w1 hD hB hR hp hcl hX
          have e19 : f 41 = .bool false := (hpAt hp 19 (by kernel_rfl)).2
          obtain ⟨k0, k1, k2, k3, k4, k5, k6⟩ := (pb7 hB).cells
          have HX := Lib.hid hX
          have HC := Lib.hid hcl
          have HB := Lib.hid hB
          have HD := Lib.hid hD
          clear hX hcl hB hD hR hp
          refine WpO.guarded 19 41 false rfl rfl rfl (by kernel_rfl) (by kernel_rfl) e19 (fun K hK => ?_)
          simp only [putAll, Act.put, List.setIfInBounds_toArray, List.set_cons_succ, List.set_cons_zero]
          go_simp
          exact hK _ _ ⟨.agg #[.string q.id, .string q.co, .string q.br, .int .i64 q.d, .int .i64 q.c, .int .i64 q.a, .slice aN n cN], (by show _ = Act.put _ (some 44) _; simp only [putAll, Act.put, List.setIfInBounds_toArray, List.set_cons_succ, List.set_cons_zero, *]; all_goals rfl), rfl, Below.refl _ _, trivial⟩
        refine AllF.step (m := 2) (j := 24) rfl ?_ ?_
        · intro D f w1 hD hB hR hp hcl hX
          have e22 : f 44 = .agg #[.string q.id, .string q.co, .string q.br, .int .i64 q.d, .int .i64 q.c, .int .i64 q.a, .slice aN n cN] := (hpAt hp 22 (by kernel_rfl)).2
          have e19 : f 41 = .bool false := (hpAt hp 19 (by kernel_rfl)).2
          obtain ⟨a, c, e21, hra⟩ := (hpAt hp 21 (by kernel_rfl)).2
          replace e21 : f 43 = _ := e21
          have hrn := rdN hB
          have HX := Lib.hid hX
          have HC := Lib.hid hcl
          have HB := Lib.hid hB
          have HD := Lib.hid hD
          clear hX hcl hB hD hR hp
          refine WpO.guarded 19 41 false rfl rfl rfl (by kernel_rfl) (by kernel_rfl) e19 (fun K hK => ?_)
          simp only [putAll, Act.put, List.setIfInBounds_toArray, List.set_cons_succ, List.set_cons_zero]
          go_simp
          refine (CS.out w1 a c aN cN hra hrn).mono ?_; rintro e w2 ⟨rfl, b2⟩
          go_simp
          exact hK _ _ ⟨.bool true, (by show _ = Act.put _ (some 45) _; simp only [putAll, Act.put, List.setIfInBounds_toArray, List.set_cons_succ, List.set_cons_zero, *]; all_goals rfl), rfl, b2, trivial⟩
        refine AllF.step (m := 1) (j := 25) rfl ?_ ?_
        · intro D f w1 hD hB hR hp hcl hX
          have e23 : f 45 = .bool true := (hpAt hp 23 (by kernel_rfl)).2
          have e19 : f 41 = .bool false := (hpAt hp 19 (by kernel_rfl)).2
          have HX := Lib.hid hX
          have HC := Lib.hid hcl
          have HB := Lib.hid hB
          have HD := Lib.hid hD
          clear hX hcl hB hD hR hp
          refine WpO.guarded 19 41 false rfl rfl rfl (by kernel_rfl) (by kernel_rfl) e19 (fun K hK => ?_)
          simp only [putAll, Act.put, List.setIfInBounds_toArray, List.set_cons_succ, List.set_cons_zero]
          go_simp
          exact hK _ _ ⟨.bool false, (by show _ = Act.put _ (some 46) _; simp only [putAll, Act.put, List.setIfInBounds_toArray, List.set_cons_succ, List.set_cons_zero, *]; all_goals rfl), rfl, Below.refl _ _, trivial⟩
        refine AllF.step (m := 0) (j := 26) rfl ?_ ?_
        · intro D f w1 hD hB hR hp hcl hX
          have e19 : f 41 = .bool false := (hpAt hp 19 (by kernel_rfl)).2
          have e24 : f 46 = .bool false := (hpAt hp 24 (by kernel_rfl)).2
          have HX := Lib.hid hX
          have HC := Lib.hid hcl
          have HB := Lib.hid hB
          have HD := Lib.hid hD
          clear hX hcl hB hD hR hp
          refine WpO.step rfl (fun K hK => ?_)
          simp only [putAll, Act.put, List.setIfInBounds_toArray, List.set_cons_succ, List.set_cons_zero]
          go_simp
          exact hK _ _ ⟨.bool false, (by show _ = Act.put _ (some 47) _; simp only [putAll, Act.put, List.setIfInBounds_toArray, List.set_cons_succ, List.set_cons_zero, *]; all_goals rfl), rfl, Below.refl _ _, trivial⟩
        exact trivial
      · intro D f w8 hD hB hR hX
        have e47 : f 47 = .bool false := hR 25 (by decide)
        have HB8 : Hid (Below W5.heap.size W5 w8) := keep HB7.out hB
        clear hD hB hR hX pb6 pb7 rdN
        simp only [putAll, Act.put, List.setIfInBounds_toArray, List.set_cons_succ, List.set_cons_zero, e47]
        clear e47
        go_wp2_with fail
        go_roundw
        case rel => exact ⟨i + 1, by omega, by go_num, HB8⟩
        case measure => simp [intOf]; omega
    · obtain rfl : i = 2 := by omega
      have hlt2 : ¬ ((2 : Nat) : Int) < 2 := by omega
      have HB9 : Hid (Below w.heap.size w wr) := keep B5.out hbl.out
      clear hbl
      go_wp2_with fail
      refine (awake_v wr).mono ?_; rintro e w9 ⟨rfl, b9⟩
      have HBF := Lib.hid (keep HB9.out b9)
      clear b9
      go_wp2_with fail
      go_ret
      exact ⟨rfl, HBF.out⟩
end Go.Proofs.Ytpoipkjchnopbaa.P9
