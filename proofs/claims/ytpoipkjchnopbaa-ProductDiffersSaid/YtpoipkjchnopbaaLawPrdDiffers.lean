import Derived.Test.YtpoipkjchnopbaaLawPrdNormal
import Derived.Test.YtpoipkjchnopbaaPrdU
import Derived.Lib.RowBridge
/- ProductDiffers for all inputs: Differences of the code against the reference's, and its symmetry. -/
namespace Go.Proofs.Ytpoipkjchnopbaa.P9
open Go.RowKit Go.Sort C6

theorem dnm_comm (l o : List Atr) : dnm l o = dnm o l := by
  unfold dnm
  congr 1
  have tr : ∀ a b c : List UInt8, (fun x y : List UInt8 => decide (x ≤ y)) a b = true → (fun x y : List UInt8 => decide (x ≤ y)) b c = true → (fun x y : List UInt8 => decide (x ≤ y)) a c = true := fun a b c h1 h2 => by simp at *; exact List.le_trans h1 h2
  have tt : ∀ a b : List UInt8, ((fun x y : List UInt8 => decide (x ≤ y)) a b || (fun x y : List UInt8 => decide (x ≤ y)) b a) = true := fun a b => by simp; exact List.le_total a b
  refine List.Perm.eq_of_pairwise (le := fun a b : List UInt8 => decide (a ≤ b) = true) (fun a b _ _ h1 h2 => List.le_antisymm (by simpa using h1) (by simpa using h2)) (List.pairwise_mergeSort tr tt _) (List.pairwise_mergeSort tr tt _) ?_
  refine ((List.mergeSort_perm _ _).trans ?_).trans (List.mergeSort_perm _ _).symm
  unfold encL
  exact (List.perm_append_comm).map _
/-- the names as texts -/
noncomputable def dnS (l o : List Atr) : List ByteArray := (dnm l o).map fun b => ⟨b.toArray⟩
theorem dnS_len (l o : List Atr) : (dnS l o).length = (dnm l o).length := by simp [dnS]
theorem dnS_strs (l o : List Atr) : strs (dnS l o) = (dnm l o).map encStr := by
  rw [strs_enc]
  congr 1
  unfold encL dnS
  rw [List.map_map]
  exact (List.map_congr_left (fun b _ => rfl)).trans (List.map_id _)
theorem dnS_rd {w : World} {base q c : Nat} {a : Option Addr} {l o : List Atr} (_hq : q = (dnm l o).length) (h : w.ownsRow base 9 1 (.slice a q c) q ((dnm l o).map encStr)) : RdS w a c (dnS l o) := by
  rw [← dnS_strs] at h
  obtain ⟨ao', cp', e', r', _⟩ := RdV.of_row h
  injection e' with e1 _ e3
  rw [e1, e3]; exact r'
theorem dnm_le (l o : List Atr) (hl : l.length ≤ 14) (ho : o.length ≤ 14) : (dnm l o).length ≤ 100000 := by
  unfold dnm
  refine Nat.le_trans (Lib.compact_length_le _) ?_
  rw [List.length_mergeSort]
  unfold encL
  rw [List.length_map, List.length_append]
  have := nms_le l o
  have := nms_le o l
  omega
def kNs (n : Nat) (ss : List ByteArray) : Value → World → Prop := fun v w => ∃ a c, v = .slice a n c ∧ RdS w a c ss
theorem StB.ns (n : Nat) (ss : List ByteArray) : StB (kNs n ss) := by
  rintro v w w' ⟨a, c, h1, h2⟩ hE
  exact ⟨a, c, h1, RdV.below h2 hE⟩
def kRw (N : Nat) : Value → World → Prop := fun v w => ∃ (p : Pd) (a : Option Addr) (l : List Atr) (c : Nat), v = .agg #[.string p.id, .string p.co, .string p.br, .int .i64 p.d, .int .i64 p.c, .int .i64 p.a, .slice a l.length c] ∧ RdA w a c l ∧ l.length ≤ 14 ∧ Sz p l ∧ offB a l (fun b => N ≤ b)
theorem RdA.fx {B g b : Nat} {w w' : World} {a : Option Addr} {c : Nat} {l : List Atr} (h : RdA w a c l) (hE : Fx B g b w w') (hb : offB a l (fun k => k ≠ B ∧ k ≠ g ∧ k ≠ b)) : RdA w' a c l :=
  h.same fun h0 k o e o' _ hv => (World.cell?_of_block (a := ⟨k, o', none⟩) (hE.block k (h.lt h0 k o e) (hb h0 k o e).1 (hb h0 k o e).2.1 (hb h0 k o e).2.2)).trans hv
theorem StF.rw {g0 g1 N : Nat} (h0 : g0 < N) (h1 : g1 < N) : StF g0 g1 g1 (kRw N) := by
  rintro v w w' ⟨p, a, l, c, e, h, h14, hz, ho⟩ hE
  exact ⟨p, a, l, c, e, h.fx hE (fun q b o e => by have := ho q b o e; omega), h14, hz, ho⟩
def Pk (w : World) (g N : Nat) : Prop := ∃ (p : Pd) (a : Option Addr) (l : List Atr) (c : Nat), PB w g p (.slice a l.length c) ∧ RdA w a c l ∧ l.length ≤ 14 ∧ Sz p l ∧ offB a l (fun b => N ≤ b)
theorem Pk.kept {w w' : World} {g N k : Nat} (h : Pk w g N) (hgb : w.grownBy w' (some k)) (hne : g ≠ k) (hk : k < N) : Pk w' g N := by
  obtain ⟨p, a, l, c, h1, h2, h3, h4, h5⟩ := h
  exact ⟨p, a, l, c, h1.grown hgb (fun e => hne (Option.some.inj e)), h2.grown (fun h0 b o e q => by have := h5 h0 b o e; have := Option.some.inj q; omega) hgb, h3, h4, h5⟩
def DfR3 (p0 q0 : Pd) (ao0 bo0 : Option Addr) (n0 cap0 m0 cbp0 N : Nat) : List (Value → World → Prop) := [kVal (.agg #[.string p0.id, .string p0.co, .string p0.br, .int .i64 p0.d, .int .i64 p0.c, .int .i64 p0.a, .slice ao0 n0 cap0]), kRw N, kVal (.agg #[.string q0.id, .string q0.co, .string q0.br, .int .i64 q0.d, .int .i64 q0.c, .int .i64 q0.a, .slice bo0 m0 cbp0]), kRw N, kAny, kAny]
def DfX3 (p0 q0 : Pd) (ao0 bo0 : Option Addr) (n0 cap0 m0 cbp0 N g0 g1 : Nat) (D : Nat → Bool) (_f : Nat → Value) (w : World) : Prop := (D 4 = false → PB w g0 p0 (.slice ao0 n0 cap0)) ∧ (D 5 = false → PB w g1 q0 (.slice bo0 m0 cbp0)) ∧ (D 4 = true → Pk w g0 N) ∧ (D 5 = true → Pk w g1 N)
def DfR5 (pP pQ pA pB : Pd) (aP aQ aD : Option Addr) (nP cP nQ cQ bA nA cA bB nB cB nd1 nd2 cD : Nat) (s1 s2 : List ByteArray) : List (Value → World → Prop) := [kVal (.agg #[.string pP.id, .string pP.co, .string pP.br, .int .i64 pP.d, .int .i64 pP.c, .int .i64 pP.a, .slice aP nP cP]), kVal (.agg #[.string pQ.id, .string pQ.co, .string pQ.br, .int .i64 pQ.d, .int .i64 pQ.c, .int .i64 pQ.a, .slice aQ nQ cQ]), kNs nd1 s1, kVal (.agg #[.string pP.id, .string pP.co, .string pP.br, .int .i64 pP.d, .int .i64 pP.c, .int .i64 pP.a, .slice aP nP cP]), kVal (.agg #[.string pQ.id, .string pQ.co, .string pQ.br, .int .i64 pQ.d, .int .i64 pQ.c, .int .i64 pQ.a, .slice aQ nQ cQ]), kNs nd1 s1, kVal (.bool true), kVal (.bool true), kVal (.slice aD nd2 cD), kVal (.agg #[.string pA.id, .string pA.co, .string pA.br, .int .i64 pA.d, .int .i64 pA.c, .int .i64 pA.a, .slice (some ⟨bA, 0, none⟩) nA cA]), kVal (.agg #[.string pB.id, .string pB.co, .string pB.br, .int .i64 pB.d, .int .i64 pB.c, .int .i64 pB.a, .slice (some ⟨bB, 0, none⟩) nB cB]), kNs nd2 s2, kVal (.bool true), kVal (.bool true), kVal (.bool true), kVal (.agg #[.string pB.id, .string pB.co, .string pB.br, .int .i64 pB.d, .int .i64 pB.c, .int .i64 pB.a, .slice (some ⟨bB, 0, none⟩) nB cB]), kVal (.agg #[.string pA.id, .string pA.co, .string pA.br, .int .i64 pA.d, .int .i64 pA.c, .int .i64 pA.a, .slice (some ⟨bA, 0, none⟩) nA cA]), kNs nd2 s2, kVal (.slice aD nd2 cD), kVal (.bool true), kVal (.bool true), kVal (.bool true), kVal (.bool true), kVal (.bool true), kVal (.bool true)]

theorem PB.fx {B g' b : Nat} {w w' : World} {g : Nat} {p : Pd} {v : Value} (h : PB w g p v) (hE : Fx B g' b w w') (h1 : g ≠ B) (h2 : g ≠ g') (h3 : g ≠ b) : PB w' g p v := (hE.block g h.lt h1 h2 h3).trans h
theorem Sz.as {p : Pd} {l : List Atr} (h : Sz p l) : AS l := fun x hx => by have := h.at1 x hx; omega
theorem Dif_c (p p' : Pd) (ao bo : Option Addr) (ca cb n m d : Nat) (l o : List Atr) (w : World) (h : RdA w ao ca l) (k : RdA w bo cb o) (hl : l.length ≤ 14) (ho : o.length ≤ 14) (sl : AS l) (so : AS o) (hn : n = l.length) (hm : m = o.length) (hd : d = (dnm l o).length) :
    Calls Try.prog 15 #[.agg #[.string p.id, .string p.co, .string p.br, .int .i64 p.d, .int .i64 p.c, .int .i64 p.a, .slice ao n ca], .agg #[.string p'.id, .string p'.co, .string p'.br, .int .i64 p'.d, .int .i64 p'.c, .int .i64 p'.a, .slice bo m cb]] w fun e w' => (∃ (a : Option Addr) (c : Nat), e = .returned (.slice a d c) ∧ RdS w' a c (dnS l o)) ∧ Below w.heap.size w w' := by
  rw [hn, hm, hd]
  refine (Differences_v p p' ao bo ca cb l o w h k (by omega) (by omega) sl so).mono ?_
  rintro e w' ⟨a, q, c, rfl, rfl, ho, hb⟩
  exact ⟨⟨a, c, rfl, dnS_rd rfl ho⟩, hb⟩
theorem rDif_c (p p' : Pd) (ao bo : Option Addr) (ca cb n m d : Nat) (l o : List Atr) (w : World) (h : RdA w ao ca l) (k : RdA w bo cb o) (hl : l.length ≤ 14) (ho : o.length ≤ 14) (hn : n = l.length) (hm : m = o.length) (hd : d = (dnm l o).length) :
    Calls Try.prog 17 #[.agg #[.string p.id, .string p.co, .string p.br, .int .i64 p.d, .int .i64 p.c, .int .i64 p.a, .slice ao n ca], .agg #[.string p'.id, .string p'.co, .string p'.br, .int .i64 p'.d, .int .i64 p'.c, .int .i64 p'.a, .slice bo m cb]] w fun e w' => (∃ (a : Option Addr) (c : Nat), e = .returned (.slice a d c) ∧ RdS w' a c (dnS l o)) ∧ Below w.heap.size w w' := by
  rw [hn, hm, hd]
  refine (rDifferences_v p p' ao bo ca cb l o w h k (by omega)).mono ?_
  rintro e w' ⟨a, q, c, rfl, rfl, ho, hb⟩
  exact ⟨⟨a, c, rfl, dnS_rd rfl ho⟩, hb⟩

set_option maxHeartbeats 16000000 in
set_option maxRecDepth 100000 in
theorem ProductDiffers_any (p0 : Pd) (ao0 : Option Addr) (l0 : List Atr) (cap0 : Nat) (q0 : Pd) (bo0 : Option Addr) (o0 : List Atr) (cbp0 : Nat) (ao1 : Option Addr) (ts : List Int) (cap1 : Nat) (w : World) (hr : RdA w ao0 cap0 l0) (hs : SL l0) (kr : RdA w bo0 cbp0 o0) (ks : SL o0) (ht : RdZ w ao1 cap1 ts) :
    Calls Try.prog 5 #[.agg #[.string p0.id, .string p0.co, .string p0.br, .int .i64 p0.d, .int .i64 p0.c, .int .i64 p0.a, .slice ao0 l0.length cap0], .agg #[.string q0.id, .string q0.co, .string q0.br, .int .i64 q0.d, .int .i64 q0.c, .int .i64 q0.a, .slice bo0 o0.length cbp0], .slice ao1 ts.length cap1] w fun e w' => e = .returned (.bool true) ∧ Below w.heap.size w w' := by
  obtain ⟨n0, hn0⟩ : ∃ n, n = l0.length := ⟨_, rfl⟩
  obtain ⟨m0, hm0⟩ : ∃ n, n = o0.length := ⟨_, rfl⟩
  obtain ⟨n1, hn1⟩ : ∃ n, n = ts.length := ⟨_, rfl⟩
  obtain ⟨g0, hg0⟩ : ∃ g, g = w.heap.size := ⟨_, rfl⟩
  obtain ⟨g1, hg1⟩ : ∃ g, g = w.heap.size + 1 := ⟨_, rfl⟩
  obtain ⟨B, hB⟩ : ∃ g, g = w.heap.size + 1 + 1 := ⟨_, rfl⟩
  obtain ⟨W1, hW1⟩ : ∃ W, W = w.alloc (.cells #[.string p0.id, .string p0.co, .string p0.br, .int .i64 p0.d, .int .i64 p0.c, .int .i64 p0.a, .slice ao0 n0 cap0] 26) := ⟨_, rfl⟩
  obtain ⟨W2, hW2⟩ : ∃ W, W = W1.alloc (.cells #[.string q0.id, .string q0.co, .string q0.br, .int .i64 q0.d, .int .i64 q0.c, .int .i64 q0.a, .slice bo0 m0 cbp0] 26) := ⟨_, rfl⟩
  obtain ⟨W3, hW3⟩ : ∃ W, W = W2.alloc (.cells #[.slice ao1 n1 cap1, .int .i64 0] 32) := ⟨_, rfl⟩
  have b1 : Below w.heap.size w W1 := by rw [hW1]; exact below_new _ _
  have b2 : Below W1.heap.size W1 W2 := by rw [hW2]; exact below_new _ _
  have b3 : Below W2.heap.size W2 W3 := by rw [hW3]; exact below_new _ _
  have s1 : W1.heap.size = w.heap.size + 1 := by rw [hW1]; exact World.size_alloc _ _
  have s2 : W2.heap.size = w.heap.size + 1 + 1 := by rw [hW2, World.size_alloc, s1]
  have s3 : W3.heap.size = w.heap.size + 3 := by rw [hW3, World.size_alloc, s2]
  have P3 : PB W3 g0 p0 (.slice ao0 n0 cap0) := ((by rw [hW1, hg0]; exact PB.new _ _ _ : PB W1 g0 p0 (.slice ao0 n0 cap0)).below b2).below b3
  have Q3 : PB W3 g1 q0 (.slice bo0 m0 cbp0) := (by rw [hW2, hg1, ← s1]; exact PB.new _ _ _ : PB W2 g1 q0 (.slice bo0 m0 cbp0)).below b3
  have b03 : Below w.heap.size w W3 := keep (keep b1 b2) b3
  have T3 : Tap W3 B ao1 ts.length cap1 0 := by rw [hW3, hB, ← s2, ← hn1]; exact Tap.new W2 ao1 n1 cap1
  have R3 := ht.below b03
  have RTL : 0 < (intz ts).length → ∀ b o, ao1 = some ⟨b, o, none⟩ → b < B := fun h0 b o e => by have := ht.lt h0 b o e; omega
  have SPC : Hid (∀ (j : Nat) (W : World), j ≤ 400 → Tap W B ao1 ts.length cap1 j → W3.grownBy W (some B) → Calls Try.prog 7 #[.pointer (some ⟨B, 0, none⟩)] W (SdPost W B ao1 ts.length cap1 j)) := fun j W hj hT hG => spoiled9_v B ao1 cap1 ts j W hT (RdV.gb9 R3 RTL (by omega) hG) RTL hj
  have RWP : Hid (∀ W, RdA W ao0 cap0 l0 → Calls Try.prog 6 #[.agg #[.string p0.id, .string p0.co, .string p0.br, .int .i64 p0.d, .int .i64 p0.c, .int .i64 p0.a, .slice ao0 n0 cap0]] W fun e w' => SmpN W e w' ∧ Below W.heap.size W w') := fun W h => by rw [hn0]; exact raw9_n p0 ao0 cap0 l0 W h hs
  have RWQ : Hid (∀ W, RdA W bo0 cbp0 o0 → Calls Try.prog 6 #[.agg #[.string q0.id, .string q0.co, .string q0.br, .int .i64 q0.d, .int .i64 q0.c, .int .i64 q0.a, .slice bo0 m0 cbp0]] W fun e w' => SmpN W e w' ∧ Below W.heap.size W w') := fun W h => by rw [hm0]; exact raw9_n q0 bo0 cbp0 o0 W h ks
  have HP3 := Lib.hid P3
  have HQ3 := Lib.hid Q3
  have HT3 : Hid (Tap W3 B ao1 n1 cap1 0) := by rw [hn1]; exact T3
  have HB3 := Lib.hid b03
  have HS3 := Lib.hid s3
  have HRP := Lib.hid (hr.below b03)
  have HRQ := Lib.hid (kr.below b03)
  have HOP : Hid (offB ao0 l0 (fun b => b < g0)) := fun h0 b o e => by have := hr.lt h0 b o e; omega
  have HOQ : Hid (offB bo0 o0 (fun b => b < g0)) := fun h0 b o e => by have := kr.lt h0 b o e; omega
  have HG : Hid (g0 = w.heap.size ∧ g1 = g0 + 1 ∧ B = g0 + 2) := ⟨hg0, by omega, by omega⟩
  rw [← hn1] at SPC
  rw [← hn0, ← hm0, ← hn1]
  clear hr hs kr ks ht P3 Q3 T3 b1 b2 b3 b03 R3 RTL hn0 hm0 hn1
  go_enter Try.func5, Try.ntmps5
  go_wp2_with fail
  rw [← hW1, ← hW2, ← hW3]
  rw [← hB, ← hg1, ← hg0]
  clear hW1 hW2 hW3 hB hg1 hg0 s1 s2 s3
  refine (SPC.out 0 W3 (by omega) HT3.out ⟨rfl, rfl, rfl, Nat.le_refl _, fun _ _ _ => rfl⟩).mono ?_; rintro e w4 ⟨pA, bA, cA, lA, rfl, hoA, hlA, hsA, hgA, jA, hjA, hTA⟩
  have SP4 := Lib.hid (SPC.out jA w4 (by omega) hTA hgA)
  have hbA := hoA.lt bA rfl
  have HA4 : Hid (w4.ownsRow W3.heap.size 42 2 (.slice (some ⟨bA, 0, none⟩) lA.length cA) lA.length (atv lA) ∧ lA.length ≤ 14 ∧ Sz pA lA ∧ W3.heap.size ≤ bA) := ⟨hoA, hlA, hsA, hbA.1⟩
  have HG4 := Lib.hid hgA
  obtain ⟨nA, hnA⟩ : ∃ n, n = lA.length := ⟨_, rfl⟩
  have HNA := Lib.hid hnA
  rw [← hnA]
  clear hoA hlA hsA hgA hjA hTA hbA SPC hnA
  go_wp2_with fail
  refine SP4.out.mono ?_; rintro e w5 ⟨pB, bB, cB, lB, rfl, hoB, hlB, hsB, hgB, _⟩
  have hbB := hoB.lt bB rfl
  have hoA5 := HA4.out.1.kept hgB (row_ne HA4.out.1 (by have := HS3.out; have := HG.out; omega))
  have hG5 : W3.grownBy w5 (some B) := gb_trans HG4.out hgB
  obtain ⟨nB, hnB⟩ : ∃ n, n = lB.length := ⟨_, rfl⟩
  obtain ⟨W5, hW5⟩ : ∃ W, W = w5.alloc (.cells #[.string pA.id, .string pA.co, .string pA.br, .int .i64 pA.d, .int .i64 pA.c, .int .i64 pA.a, .slice (some ⟨bA, 0, none⟩) nA cA] 26) := ⟨_, rfl⟩
  obtain ⟨W6, hW6⟩ : ∃ W, W = W5.alloc (.cells #[.string pB.id, .string pB.co, .string pB.br, .int .i64 pB.d, .int .i64 pB.c, .int .i64 pB.a, .slice (some ⟨bB, 0, none⟩) nB cB] 26) := ⟨_, rfl⟩
  obtain ⟨gA, hgA⟩ : ∃ g, g = w5.heap.size := ⟨_, rfl⟩
  obtain ⟨gB', hgB'⟩ : ∃ g, g = w5.heap.size + 1 := ⟨_, rfl⟩
  have b5 : Below w5.heap.size w5 W5 := by rw [hW5]; exact below_new _ _
  have b6 : Below W5.heap.size W5 W6 := by rw [hW6]; exact below_new _ _
  have s5 : W5.heap.size = w5.heap.size + 1 := by rw [hW5]; exact World.size_alloc _ _
  have s6 : W6.heap.size = w5.heap.size + 2 := by rw [hW6, World.size_alloc, s5]
  have b56 : Below w5.heap.size w5 W6 := keep b5 b6
  have PA6 : Hid (PB W6 gA pA (.slice (some ⟨bA, 0, none⟩) nA cA)) := (by rw [hW5, hgA]; exact PB.new _ _ _ : PB W5 gA pA (.slice (some ⟨bA, 0, none⟩) nA cA)).below b6
  have PB6 : Hid (PB W6 gB' pB (.slice (some ⟨bB, 0, none⟩) nB cB)) := by rw [hW6, hgB', ← s5]; exact PB.new _ _ _
  have P06 : Hid (PB W6 g0 p0 (.slice ao0 n0 cap0)) := (HP3.out.grown hG5 (fun e => by have := Option.some.inj e; have := HG.out; omega)).below b56
  have P16 : Hid (PB W6 g1 q0 (.slice bo0 m0 cbp0)) := (HQ3.out.grown hG5 (fun e => by have := Option.some.inj e; have := HG.out; omega)).below b56
  have RP6 : Hid (RdA W6 ao0 cap0 l0) := (HRP.out.grown (fun h0 b o e q => by have := HOP.out h0 b o e; have := Option.some.inj q; have := HG.out; omega) hG5).below b56
  have RQ6 : Hid (RdA W6 bo0 cbp0 o0) := (HRQ.out.grown (fun h0 b o e q => by have := HOQ.out h0 b o e; have := Option.some.inj q; have := HG.out; omega) hG5).below b56
  have RA6 : Hid (RdA W6 (some ⟨bA, 0, none⟩) cA lA) := (own_rd rfl hoA5).below b56
  have RB6 : Hid (RdA W6 (some ⟨bB, 0, none⟩) cB lB) := (own_rd rfl hoB).below b56
  have B6 : Hid (Below w.heap.size w W6) := by
    have h5 := HB3.out
    have : Below w.heap.size w w5 := ⟨hG5.os.trans h5.os, hG5.tape.trans h5.tape, hG5.output.trans h5.output, Nat.le_trans h5.size hG5.size, fun k hk => (hG5.block k (Nat.lt_of_lt_of_le hk h5.size) (fun e => by have := Option.some.inj e; have := HG.out; omega)).trans (h5.block k hk)⟩
    exact keep this b56
  have hw53 := hG5.size
  have hg45 := HG4.out.size
  obtain ⟨N, hN⟩ : ∃ N, N = W6.heap.size := ⟨_, rfl⟩
  have HAB : Hid (lA.length ≤ 14 ∧ Sz pA lA ∧ nA = lA.length ∧ lB.length ≤ 14 ∧ Sz pB lB ∧ nB = lB.length) := ⟨HA4.out.2.1, HA4.out.2.2.1, HNA.out, hlB, hsB, hnB⟩
  have HO : Hid (g1 < bA ∧ g1 < bB ∧ g1 < gA ∧ g1 < gB') := ⟨by have := HA4.out.2.2.2; have := HS3.out; have := HG.out; omega, by have := HS3.out; have := HG.out; omega, by have := HS3.out; have := HG.out; omega, by have := HS3.out; have := HG.out; omega⟩
  have HN := Lib.hid hN
  have hg0N : g0 < N := by have := HS3.out; have := HG.out; omega
  have hg1N : g1 < N := by have := HS3.out; have := HG.out; omega
  have hg01 : g0 < g1 := by have := HG.out; omega
  rw [← hnB]
  clear hoB hlB hsB hgB hbB hoA5 hG5 hnB b5 b6 s6 b56 HA4 HG4 SP4 hw53 hg45 hN
  go_upto_region 3 with fail
  rw [← hW5, ← hW6]
  try rw [← hgB']
  try rw [← hgA]
  clear hW5 hW6 hgA hgB' s5
  have hsz : ∀ {w1 : World}, Fx g0 g1 g1 W6 w1 → N ≤ w1.heap.size := fun h => by have := h.size; have := HN.out; omega
  have rdP : ∀ {w1 : World}, Fx g0 g1 g1 W6 w1 → RdA w1 ao0 cap0 l0 := fun h => RP6.out.fx h (fun h0 b o e => by have := HOP.out h0 b o e; omega)
  have rdQ : ∀ {w1 : World}, Fx g0 g1 g1 W6 w1 → RdA w1 bo0 cbp0 o0 := fun h => RQ6.out.fx h (fun h0 b o e => by have := HOQ.out h0 b o e; omega)
  refine wp_region_any (by kernel_rfl) ?_
  refine region_ssa [18, 19, 20, 21] (Fx g0 g1 g1 W6) (Fx g0 g1 g1) (RLs (DfR3 p0 q0 ao0 bo0 n0 cap0 m0 cbp0 N)) (DfX3 p0 q0 ao0 bo0 n0 cap0 m0 cbp0 N g0 g1) (fun f => rfl) (by kernel_rfl) (by kernel_rfl) ?_ ?_ ?_ ?_ (AllF.below (n := 6) ?_) ?_
  · exact (Fx.refl _ _ _ _).drew
  · intro f; exact ⟨fun _ => P06.out, fun _ => P16.out, fun h => (by cases h), fun h => (by cases h)⟩
  · intro i v w1 w2 _ h hE; exact RLs.stF (StL.all (l := DfR3 p0 q0 ao0 bo0 n0 cap0 m0 cbp0 N) ⟨StF.val _, StF.rw hg0N hg1N, StF.val _, StF.rw hg0N hg1N, StF.any, StF.any, trivial⟩) i v w1 w2 h hE
  · intro w1 w2 hB hE; exact hB.trans hE
  · refine AllF.step (m := 5) (j := 1) rfl ?_ ?_
    · intro D f w1 hD hB hR hp hcl hX
      obtain ⟨k0, k1, k2, k3, k4, k5, k6⟩ := (hX.1 (noF (hcl 4) (by kernel_rfl) hD)).cells
      have HX := Lib.hid hX
      have HC := Lib.hid hcl
      have HB := Lib.hid hB
      have HD := Lib.hid hD
      clear hX hcl hB hD hR hp
      refine wpOp_step rfl (fun K hK => ?_)
      simp only [putAll, Act.put, List.setIfInBounds_toArray, List.set_cons_succ, List.set_cons_zero]
      go_simp
      exact hK _ _ ⟨.agg #[.string p0.id, .string p0.co, .string p0.br, .int .i64 p0.d, .int .i64 p0.c, .int .i64 p0.a, .slice ao0 n0 cap0], (by show _ = Act.put _ (some 18) _; simp only [putAll, Act.put, List.setIfInBounds_toArray, List.set_cons_succ, List.set_cons_zero, *]; all_goals rfl), rfl, Fx.refl _ _ _ _, HX.out⟩
    refine AllF.step (m := 4) (j := 2) rfl ?_ ?_
    · intro D f w1 hD hB hR hp hcl hX
      have e0 : f 18 = .agg #[.string p0.id, .string p0.co, .string p0.br, .int .i64 p0.d, .int .i64 p0.c, .int .i64 p0.a, .slice ao0 n0 cap0] := (hpAt hp 0 (by kernel_rfl)).2
      have hn := hsz hB
      have hrd := rdP hB
      have HX := Lib.hid hX
      have HC := Lib.hid hcl
      have HB := Lib.hid hB
      have HD := Lib.hid hD
      clear hX hcl hB hD hR hp
      refine wpOp_step rfl (fun K hK => ?_)
      simp only [putAll, Act.put, List.setIfInBounds_toArray, List.set_cons_succ, List.set_cons_zero]
      go_simp
      refine (RWP.out w1 hrd).mono ?_; rintro e w2 ⟨⟨p', a, l', c, rfl, hra, hl14, hsz', hof⟩, b2⟩
      go_simp
      have hof2 : offB a l' (fun b => N ≤ b) := fun h0 b o e => Nat.le_trans hn (hof h0 b o e)
      exact hK _ _ ⟨.agg #[.string p'.id, .string p'.co, .string p'.br, .int .i64 p'.d, .int .i64 p'.c, .int .i64 p'.a, .slice a l'.length c], (by show _ = Act.put _ (some 19) _; simp only [putAll, Act.put, List.setIfInBounds_toArray, List.set_cons_succ, List.set_cons_zero, *]; all_goals rfl), ⟨p', a, l', c, rfl, hra, hl14, hsz', hof2⟩, Fx.of (below_gb b2 none) (.inr (.inr (.inr rfl))), ⟨fun h => (HX.out.1 h).below b2, fun h => (HX.out.2.1 h).below b2, fun h => absurd h (noOf (D := D) (HC.out 4) (by kernel_rfl) HD.out), fun h => absurd h (noOf (D := D) (HC.out 5) (by kernel_rfl) HD.out)⟩⟩
    refine AllF.step (m := 3) (j := 3) rfl ?_ ?_
    · intro D f w1 hD hB hR hp hcl hX
      obtain ⟨k0, k1, k2, k3, k4, k5, k6⟩ := (hX.2.1 (noF (hcl 5) (by kernel_rfl) hD)).cells
      have HX := Lib.hid hX
      have HC := Lib.hid hcl
      have HB := Lib.hid hB
      have HD := Lib.hid hD
      clear hX hcl hB hD hR hp
      refine wpOp_step rfl (fun K hK => ?_)
      simp only [putAll, Act.put, List.setIfInBounds_toArray, List.set_cons_succ, List.set_cons_zero]
      go_simp
      exact hK _ _ ⟨.agg #[.string q0.id, .string q0.co, .string q0.br, .int .i64 q0.d, .int .i64 q0.c, .int .i64 q0.a, .slice bo0 m0 cbp0], (by show _ = Act.put _ (some 20) _; simp only [putAll, Act.put, List.setIfInBounds_toArray, List.set_cons_succ, List.set_cons_zero, *]; all_goals rfl), rfl, Fx.refl _ _ _ _, HX.out⟩
    refine AllF.step (m := 2) (j := 4) rfl ?_ ?_
    · intro D f w1 hD hB hR hp hcl hX
      have e2 : f 20 = .agg #[.string q0.id, .string q0.co, .string q0.br, .int .i64 q0.d, .int .i64 q0.c, .int .i64 q0.a, .slice bo0 m0 cbp0] := (hpAt hp 2 (by kernel_rfl)).2
      have hn := hsz hB
      have hrd := rdQ hB
      have HX := Lib.hid hX
      have HC := Lib.hid hcl
      have HB := Lib.hid hB
      have HD := Lib.hid hD
      clear hX hcl hB hD hR hp
      refine wpOp_step rfl (fun K hK => ?_)
      simp only [putAll, Act.put, List.setIfInBounds_toArray, List.set_cons_succ, List.set_cons_zero]
      go_simp
      refine (RWQ.out w1 hrd).mono ?_; rintro e w2 ⟨⟨p', a, l', c, rfl, hra, hl14, hsz', hof⟩, b2⟩
      go_simp
      have hof2 : offB a l' (fun b => N ≤ b) := fun h0 b o e => Nat.le_trans hn (hof h0 b o e)
      exact hK _ _ ⟨.agg #[.string p'.id, .string p'.co, .string p'.br, .int .i64 p'.d, .int .i64 p'.c, .int .i64 p'.a, .slice a l'.length c], (by show _ = Act.put _ (some 21) _; simp only [putAll, Act.put, List.setIfInBounds_toArray, List.set_cons_succ, List.set_cons_zero, *]; all_goals rfl), ⟨p', a, l', c, rfl, hra, hl14, hsz', hof2⟩, Fx.of (below_gb b2 none) (.inr (.inr (.inr rfl))), ⟨fun h => (HX.out.1 h).below b2, fun h => (HX.out.2.1 h).below b2, fun h => absurd h (noOf (D := D) (HC.out 4) (by kernel_rfl) HD.out), fun h => absurd h (noOf (D := D) (HC.out 5) (by kernel_rfl) HD.out)⟩⟩
    refine AllF.step (m := 1) (j := 5) rfl ?_ ?_
    · intro D f w1 hD hB hR hp hcl hX
      obtain ⟨p', a, l', c, e1, hrd, hl14, hsz', hof⟩ := (hpAt hp 1 (by kernel_rfl)).2
      replace e1 : f 19 = _ := e1
      have hpb := hX.1 hD
      obtain ⟨f0, f1, f2, f3, f4, f5, f6⟩ := hpb.fz
      obtain ⟨k0, k1, k2, k3, k4, k5, k6⟩ := hpb.cells
      have hnew := set7_heap w1 g0 p' (.slice a l'.length c) hpb
      have hgb := set7_gb w1 g0 p' (.slice a l'.length c)
      have hrd2 := hrd.grown (row := some g0) (fun h0 b o e q => by have := hof h0 b o e; have := Option.some.inj q; omega) hgb
      clear hpb hrd
      have HX := Lib.hid hX
      have HC := Lib.hid hcl
      have HB := Lib.hid hB
      have HD := Lib.hid hD
      clear hX hcl hB hD hR hp
      refine wpOp_step rfl (fun K hK => ?_)
      simp only [putAll, Act.put, List.setIfInBounds_toArray, List.set_cons_succ, List.set_cons_zero]
      go_simp
      exact hK _ _ ⟨undef, (by show _ = Act.put _ (none) _; simp only [putAll, Act.put, List.setIfInBounds_toArray, List.set_cons_succ, List.set_cons_zero, *]; all_goals rfl), trivial, Fx.of hgb (.inl rfl), ⟨fun h => absurd (show true = false from h) (by decide), fun h => (HX.out.2.1 h).grown hgb (fun e => by have := Option.some.inj e; omega), fun _ => ⟨p', a, l', c, hnew, hrd2, hl14, hsz', hof⟩, fun h => absurd h (noOf (D := D) (HC.out 5) (by kernel_rfl) HD.out)⟩⟩
    refine AllF.step (m := 0) (j := 6) rfl ?_ ?_
    · intro D f w1 hD hB hR hp hcl hX
      obtain ⟨p', a, l', c, e3, hrd, hl14, hsz', hof⟩ := (hpAt hp 3 (by kernel_rfl)).2
      replace e3 : f 21 = _ := e3
      have hpb := hX.2.1 hD
      obtain ⟨f0, f1, f2, f3, f4, f5, f6⟩ := hpb.fz
      obtain ⟨k0, k1, k2, k3, k4, k5, k6⟩ := hpb.cells
      have hnew := set7_heap w1 g1 p' (.slice a l'.length c) hpb
      have hgb := set7_gb w1 g1 p' (.slice a l'.length c)
      have hrd2 := hrd.grown (row := some g1) (fun h0 b o e q => by have := hof h0 b o e; have := Option.some.inj q; omega) hgb
      clear hpb hrd
      have HX := Lib.hid hX
      have HC := Lib.hid hcl
      have HB := Lib.hid hB
      have HD := Lib.hid hD
      clear hX hcl hB hD hR hp
      refine wpOp_step rfl (fun K hK => ?_)
      simp only [putAll, Act.put, List.setIfInBounds_toArray, List.set_cons_succ, List.set_cons_zero]
      go_simp
      exact hK _ _ ⟨undef, (by show _ = Act.put _ (none) _; simp only [putAll, Act.put, List.setIfInBounds_toArray, List.set_cons_succ, List.set_cons_zero, *]; all_goals rfl), trivial, Fx.of hgb (.inr (.inl rfl)), ⟨fun h => (HX.out.1 h).grown hgb (fun e => by have := Option.some.inj e; omega), fun h => absurd (show true = false from h) (by decide), fun h => (HX.out.2.2.1 h).kept hgb (by omega) (by omega), fun _ => ⟨p', a, l', c, hnew, hrd2, hl14, hsz', hof⟩⟩⟩
    exact trivial
  · intro D f w7 hD hB hR hX
    obtain ⟨pP, aP, lP, cP, hPP, hRP, hlP, hsP, _⟩ := hX.2.2.1 (hD 4 (by decide))
    obtain ⟨pQ, aQ, lQ, cQ, hPQ, hRQ, hlQ, hsQ, _⟩ := hX.2.2.2 (hD 5 (by decide))
    have hPA := PA6.out.fx hB (by have := HO.out; omega) (by have := HO.out; omega) (by have := HO.out; omega)
    have hPB := PB6.out.fx hB (by have := HO.out; omega) (by have := HO.out; omega) (by have := HO.out; omega)
    have hRA := RA6.out.fx hB (fun h0 b o e => by cases e; have := HO.out; omega)
    have hRB := RB6.out.fx hB (fun h0 b o e => by cases e; have := HO.out; omega)
    have B7 : Hid (Below w.heap.size w w7) := by
      have h5 := B6.out
      exact ⟨hB.os.trans h5.os, hB.tape.trans h5.tape, hB.output.trans h5.output, Nat.le_trans h5.size hB.size, fun k hk => (hB.block k (Nat.lt_of_lt_of_le hk h5.size) (by have := HG.out; omega) (by have := HG.out; omega) (by have := HG.out; omega)).trans (h5.block k hk)⟩
    obtain ⟨nP, hnP⟩ : ∃ n, n = lP.length := ⟨_, rfl⟩
    obtain ⟨nQ, hnQ⟩ : ∃ n, n = lQ.length := ⟨_, rfl⟩
    rw [← hnP] at hPP
    rw [← hnQ] at hPQ
    have HPQ : Hid (lP.length ≤ 14 ∧ Sz pP lP ∧ nP = lP.length ∧ lQ.length ≤ 14 ∧ Sz pQ lQ ∧ nQ = lQ.length) := ⟨hlP, hsP, hnP, hlQ, hsQ, hnQ⟩
    obtain ⟨nd1, hd1⟩ : ∃ n, n = (dnm lP lQ).length := ⟨_, rfl⟩
    obtain ⟨nd2, hd2⟩ : ∃ n, n = (dnm lA lB).length := ⟨_, rfl⟩
    have HD12 : Hid (nd1 = (dnm lP lQ).length ∧ nd2 = (dnm lA lB).length) := ⟨hd1, hd2⟩
    have DAB := Lib.hid (Dif_c pA pB (some ⟨bA, 0, none⟩) (some ⟨bB, 0, none⟩) cA cB nA nB nd2 lA lB w7 hRA hRB HAB.out.1 HAB.out.2.2.2.1 HAB.out.2.1.as HAB.out.2.2.2.2.1.as HAB.out.2.2.1 HAB.out.2.2.2.2.2 hd2)
    have HPP := Lib.hid hPP
    have HPQ7 := Lib.hid hPQ
    have HRP7 := Lib.hid hRP
    have HRQ7 := Lib.hid hRQ
    have HPA7 := Lib.hid hPA
    have HPB7 := Lib.hid hPB
    have HRA7 := Lib.hid hRA
    have HRB7 := Lib.hid hRB
    obtain ⟨k0, k1, k2, k3, k4, k5, k6⟩ := hPA.cells
    obtain ⟨q0', q1', q2', q3', q4', q5', q6'⟩ := hPB.cells
    clear hX hR hD hB hsz rdP rdQ hPP hRP hlP hsP hPQ hRQ hlQ hsQ hPA hPB hRA hRB hnP hnQ hd1 hd2 RP6 RQ6 HRP HRQ HOP HOQ RWP RWQ HP3 HQ3 P06 P16 RA6 RB6 PA6 PB6 B6 HB3 HT3
    simp only [putAll, Act.put, List.setIfInBounds_toArray, List.set_cons_succ, List.set_cons_zero]
    go_wp2_with fail
    refine DAB.out.mono ?_; rintro e w8 ⟨⟨aD, cD, rfl, hrD⟩, b8⟩
    obtain ⟨W7, hW7⟩ : ∃ W, W = w8 := ⟨_, rfl⟩
    rw [← hW7] at hrD b8
    have BW8 : Hid (Below w.heap.size w W7) := keep B7.out b8
    have PP8 := Lib.hid (HPP.out.below b8)
    have PQ8 := Lib.hid (HPQ7.out.below b8)
    have PA8 := Lib.hid (HPA7.out.below b8)
    have PB8 := Lib.hid (HPB7.out.below b8)
    have RP8 := HRP7.out.below b8
    have RQ8 := HRQ7.out.below b8
    have RA8 := HRA7.out.below b8
    have RB8 := HRB7.out.below b8
    have HRD := Lib.hid hrD
    obtain ⟨s1, hs1⟩ : ∃ s, s = dnS lP lQ := ⟨_, rfl⟩
    obtain ⟨s2, hs2⟩ : ∃ s, s = dnS lA lB := ⟨_, rfl⟩
    have hl1 : s1.length = nd1 := by rw [hs1, dnS_len]; exact HD12.out.1.symm
    have hl2 : s2.length = nd2 := by rw [hs2, dnS_len]; exact HD12.out.2.symm
    have hm1 : s1.length ≤ 100000 := by rw [hs1, dnS_len]; exact dnm_le _ _ HPQ.out.1 HPQ.out.2.2.2.1
    have hm2 : s2.length ≤ 100000 := by rw [hs2, dnS_len]; exact dnm_le _ _ HAB.out.1 HAB.out.2.2.2.1
    rw [← hs2] at HRD
    have CD1 : Hid (∀ W', Below W7.heap.size W7 W' → Calls Try.prog 15 #[.agg #[.string pP.id, .string pP.co, .string pP.br, .int .i64 pP.d, .int .i64 pP.c, .int .i64 pP.a, .slice aP nP cP], .agg #[.string pQ.id, .string pQ.co, .string pQ.br, .int .i64 pQ.d, .int .i64 pQ.c, .int .i64 pQ.a, .slice aQ nQ cQ]] W' fun e w' => (∃ (a : Option Addr) (c : Nat), e = .returned (.slice a nd1 c) ∧ RdS w' a c s1) ∧ Below W'.heap.size W' w') := fun W' hb => by
      rw [hs1]; exact Dif_c pP pQ aP aQ cP cQ nP nQ nd1 lP lQ W' (RP8.below hb) (RQ8.below hb) HPQ.out.1 HPQ.out.2.2.2.1 HPQ.out.2.1.as HPQ.out.2.2.2.2.1.as HPQ.out.2.2.1 HPQ.out.2.2.2.2.2 HD12.out.1
    have CE1 : Hid (∀ W', Below W7.heap.size W7 W' → Calls Try.prog 17 #[.agg #[.string pP.id, .string pP.co, .string pP.br, .int .i64 pP.d, .int .i64 pP.c, .int .i64 pP.a, .slice aP nP cP], .agg #[.string pQ.id, .string pQ.co, .string pQ.br, .int .i64 pQ.d, .int .i64 pQ.c, .int .i64 pQ.a, .slice aQ nQ cQ]] W' fun e w' => (∃ (a : Option Addr) (c : Nat), e = .returned (.slice a nd1 c) ∧ RdS w' a c s1) ∧ Below W'.heap.size W' w') := fun W' hb => by
      rw [hs1]; exact rDif_c pP pQ aP aQ cP cQ nP nQ nd1 lP lQ W' (RP8.below hb) (RQ8.below hb) HPQ.out.1 HPQ.out.2.2.2.1 HPQ.out.2.2.1 HPQ.out.2.2.2.2.2 HD12.out.1
    have CE2 : Hid (∀ W', Below W7.heap.size W7 W' → Calls Try.prog 17 #[.agg #[.string pA.id, .string pA.co, .string pA.br, .int .i64 pA.d, .int .i64 pA.c, .int .i64 pA.a, .slice (some ⟨bA, 0, none⟩) nA cA], .agg #[.string pB.id, .string pB.co, .string pB.br, .int .i64 pB.d, .int .i64 pB.c, .int .i64 pB.a, .slice (some ⟨bB, 0, none⟩) nB cB]] W' fun e w' => (∃ (a : Option Addr) (c : Nat), e = .returned (.slice a nd2 c) ∧ RdS w' a c s2) ∧ Below W'.heap.size W' w') := fun W' hb => by
      rw [hs2]; exact rDif_c pA pB _ _ cA cB nA nB nd2 lA lB W' (RA8.below hb) (RB8.below hb) HAB.out.1 HAB.out.2.2.2.1 HAB.out.2.2.1 HAB.out.2.2.2.2.2 HD12.out.2
    have CD2 : Hid (∀ W', Below W7.heap.size W7 W' → Calls Try.prog 15 #[.agg #[.string pB.id, .string pB.co, .string pB.br, .int .i64 pB.d, .int .i64 pB.c, .int .i64 pB.a, .slice (some ⟨bB, 0, none⟩) nB cB], .agg #[.string pA.id, .string pA.co, .string pA.br, .int .i64 pA.d, .int .i64 pA.c, .int .i64 pA.a, .slice (some ⟨bA, 0, none⟩) nA cA]] W' fun e w' => (∃ (a : Option Addr) (c : Nat), e = .returned (.slice a nd2 c) ∧ RdS w' a c s2) ∧ Below W'.heap.size W' w') := fun W' hb => by
      have := Dif_c pB pA (some ⟨bB, 0, none⟩) (some ⟨bA, 0, none⟩) cB cA nB nA nd2 lB lA W' (RB8.below hb) (RA8.below hb) HAB.out.2.2.2.1 HAB.out.1 HAB.out.2.2.2.2.1.as HAB.out.2.1.as HAB.out.2.2.2.2.2 HAB.out.2.2.1 (by rw [dnm_comm]; exact HD12.out.2)
      rw [hs2]
      unfold dnS at this ⊢
      rw [dnm_comm lB lA] at this
      exact this
    have CS1 : Hid (∀ (W' : World) (a : Option Addr) (c : Nat) (b : Option Addr) (d : Nat), RdS W' a c s1 → RdS W' b d s1 → Calls Try.prog 16 #[.slice a nd1 c, .slice b nd1 d] W' fun e w' => e = .returned (.bool true) ∧ Below W'.heap.size W' w') := fun W' a c b d h1 h2 => by rw [← hl1]; exact SameStr_v a b c d s1 W' h1 h2 hm1
    have CS2 : Hid (∀ (W' : World) (a : Option Addr) (c : Nat) (b : Option Addr) (d : Nat), RdS W' a c s2 → RdS W' b d s2 → Calls Try.prog 16 #[.slice a nd2 c, .slice b nd2 d] W' fun e w' => e = .returned (.bool true) ∧ Below W'.heap.size W' w') := fun W' a c b d h1 h2 => by rw [← hl2]; exact SameStr_v a b c d s2 W' h1 h2 hm2
    have pb0 : ∀ {w1 : World}, Below W7.heap.size W7 w1 → PB w1 g0 pP (.slice aP nP cP) := fun h => PP8.out.below h
    have pb1 : ∀ {w1 : World}, Below W7.heap.size W7 w1 → PB w1 g1 pQ (.slice aQ nQ cQ) := fun h => PQ8.out.below h
    have pb8 : ∀ {w1 : World}, Below W7.heap.size W7 w1 → PB w1 gA pA (.slice (some ⟨bA, 0, none⟩) nA cA) := fun h => PA8.out.below h
    have pb9 : ∀ {w1 : World}, Below W7.heap.size W7 w1 → PB w1 gB' pB (.slice (some ⟨bB, 0, none⟩) nB cB) := fun h => PB8.out.below h
    have rdD : ∀ {w1 : World}, Below W7.heap.size W7 w1 → RdS w1 aD cD s2 := fun h => RdV.below HRD.out h
    clear hs1 hs2 hl1 hl2 hm1 hm2 RP8 RQ8 RA8 RB8 hrD b8 DAB HRP7 HRQ7 HRA7 HRB7 HPP HPQ7 HPA7 HPB7 k0 k1 k2 k3 k4 k5 k6 q0' q1' q2' q3' q4' q5' q6'
    go_upto_region 5 with fail
    rw [← hW7]
    clear hW7
    refine wp_region_any (by kernel_rfl) ?_
    refine region_ssa [25, 26, 27, 28, 29, 30, 31, 32, 33, 34, 35, 36, 37, 38, 39, 40, 41, 42, 43, 44, 45, 46, 47, 48, 6] (Below W7.heap.size W7) (fun w1 w2 => Below w1.heap.size w1 w2) (RLs (DfR5 pP pQ pA pB aP aQ aD nP cP nQ cQ bA nA cA bB nB cB nd1 nd2 cD s1 s2)) (fun _ _ _ => True) (fun f => rfl) (by kernel_rfl) (by kernel_rfl) ?_ ?_ ?_ ?_ (stepG_below (n := 25) ?_) ?_
    · exact (Below.refl _ _).drew
    · intro _; trivial
    · intro i v w1 w2 _ h hE; exact RLs.stB (StBL.all (l := DfR5 pP pQ pA pB aP aQ aD nP cP nQ cQ bA nA cA bB nB cB nd1 nd2 cD s1 s2) ⟨StB.val _, StB.val _, StB.ns _ _, StB.val _, StB.val _, StB.ns _ _, StB.val _, StB.val _, StB.val _, StB.val _, StB.val _, StB.ns _ _, StB.val _, StB.val _, StB.val _, StB.val _, StB.val _, StB.ns _ _, StB.val _, StB.val _, StB.val _, StB.val _, StB.val _, StB.val _, StB.val _, trivial⟩) i v w1 w2 h hE
    · intro w1 w2 hB hE; exact hB.trans (hE.mono hB.size)
    · refine AllF.step (m := 24) (j := 1) rfl ?_ ?_
      · intro D f w1 hD hB hR hp hcl hX
        obtain ⟨k0, k1, k2, k3, k4, k5, k6⟩ := (pb0 hB).cells
        have HX := Lib.hid hX
        have HC := Lib.hid hcl
        have HB := Lib.hid hB
        have HD := Lib.hid hD
        clear hX hcl hB hD hR hp
        refine WpO.step rfl (fun K hK => ?_)
        simp only [putAll, Act.put, List.setIfInBounds_toArray, List.set_cons_succ, List.set_cons_zero]
        go_simp
        exact hK _ _ ⟨.agg #[.string pP.id, .string pP.co, .string pP.br, .int .i64 pP.d, .int .i64 pP.c, .int .i64 pP.a, .slice aP nP cP], (by show _ = Act.put _ (some 25) _; simp only [putAll, Act.put, List.setIfInBounds_toArray, List.set_cons_succ, List.set_cons_zero, *]; all_goals rfl), rfl, Below.refl _ _, trivial⟩
      refine AllF.step (m := 23) (j := 2) rfl ?_ ?_
      · intro D f w1 hD hB hR hp hcl hX
        obtain ⟨k0, k1, k2, k3, k4, k5, k6⟩ := (pb1 hB).cells
        have HX := Lib.hid hX
        have HC := Lib.hid hcl
        have HB := Lib.hid hB
        have HD := Lib.hid hD
        clear hX hcl hB hD hR hp
        refine WpO.step rfl (fun K hK => ?_)
        simp only [putAll, Act.put, List.setIfInBounds_toArray, List.set_cons_succ, List.set_cons_zero]
        go_simp
        exact hK _ _ ⟨.agg #[.string pQ.id, .string pQ.co, .string pQ.br, .int .i64 pQ.d, .int .i64 pQ.c, .int .i64 pQ.a, .slice aQ nQ cQ], (by show _ = Act.put _ (some 26) _; simp only [putAll, Act.put, List.setIfInBounds_toArray, List.set_cons_succ, List.set_cons_zero, *]; all_goals rfl), rfl, Below.refl _ _, trivial⟩
      refine AllF.step (m := 22) (j := 3) rfl ?_ ?_
      · intro D f w1 hD hB hR hp hcl hX
        have e0 : f 25 = .agg #[.string pP.id, .string pP.co, .string pP.br, .int .i64 pP.d, .int .i64 pP.c, .int .i64 pP.a, .slice aP nP cP] := (hpAt hp 0 (by kernel_rfl)).2
        have e1 : f 26 = .agg #[.string pQ.id, .string pQ.co, .string pQ.br, .int .i64 pQ.d, .int .i64 pQ.c, .int .i64 pQ.a, .slice aQ nQ cQ] := (hpAt hp 1 (by kernel_rfl)).2
        have HX := Lib.hid hX
        have HC := Lib.hid hcl
        have HB := Lib.hid hB
        have HD := Lib.hid hD
        clear hX hcl hB hD hR hp
        refine WpO.step rfl (fun K hK => ?_)
        simp only [putAll, Act.put, List.setIfInBounds_toArray, List.set_cons_succ, List.set_cons_zero]
        go_simp
        refine (CD1.out w1 HB.out).mono ?_; rintro e w2 ⟨⟨a, c, rfl, hra⟩, b2⟩
        go_simp
        exact hK _ _ ⟨.slice a nd1 c, (by show _ = Act.put _ (some 27) _; simp only [putAll, Act.put, List.setIfInBounds_toArray, List.set_cons_succ, List.set_cons_zero, *]; all_goals rfl), ⟨a, c, rfl, hra⟩, b2, trivial⟩
      refine AllF.step (m := 21) (j := 4) rfl ?_ ?_
      · intro D f w1 hD hB hR hp hcl hX
        obtain ⟨k0, k1, k2, k3, k4, k5, k6⟩ := (pb0 hB).cells
        have HX := Lib.hid hX
        have HC := Lib.hid hcl
        have HB := Lib.hid hB
        have HD := Lib.hid hD
        clear hX hcl hB hD hR hp
        refine WpO.step rfl (fun K hK => ?_)
        simp only [putAll, Act.put, List.setIfInBounds_toArray, List.set_cons_succ, List.set_cons_zero]
        go_simp
        exact hK _ _ ⟨.agg #[.string pP.id, .string pP.co, .string pP.br, .int .i64 pP.d, .int .i64 pP.c, .int .i64 pP.a, .slice aP nP cP], (by show _ = Act.put _ (some 28) _; simp only [putAll, Act.put, List.setIfInBounds_toArray, List.set_cons_succ, List.set_cons_zero, *]; all_goals rfl), rfl, Below.refl _ _, trivial⟩
      refine AllF.step (m := 20) (j := 5) rfl ?_ ?_
      · intro D f w1 hD hB hR hp hcl hX
        obtain ⟨k0, k1, k2, k3, k4, k5, k6⟩ := (pb1 hB).cells
        have HX := Lib.hid hX
        have HC := Lib.hid hcl
        have HB := Lib.hid hB
        have HD := Lib.hid hD
        clear hX hcl hB hD hR hp
        refine WpO.step rfl (fun K hK => ?_)
        simp only [putAll, Act.put, List.setIfInBounds_toArray, List.set_cons_succ, List.set_cons_zero]
        go_simp
        exact hK _ _ ⟨.agg #[.string pQ.id, .string pQ.co, .string pQ.br, .int .i64 pQ.d, .int .i64 pQ.c, .int .i64 pQ.a, .slice aQ nQ cQ], (by show _ = Act.put _ (some 29) _; simp only [putAll, Act.put, List.setIfInBounds_toArray, List.set_cons_succ, List.set_cons_zero, *]; all_goals rfl), rfl, Below.refl _ _, trivial⟩
      refine AllF.step (m := 19) (j := 6) rfl ?_ ?_
      · intro D f w1 hD hB hR hp hcl hX
        have e3 : f 28 = .agg #[.string pP.id, .string pP.co, .string pP.br, .int .i64 pP.d, .int .i64 pP.c, .int .i64 pP.a, .slice aP nP cP] := (hpAt hp 3 (by kernel_rfl)).2
        have e4 : f 29 = .agg #[.string pQ.id, .string pQ.co, .string pQ.br, .int .i64 pQ.d, .int .i64 pQ.c, .int .i64 pQ.a, .slice aQ nQ cQ] := (hpAt hp 4 (by kernel_rfl)).2
        have HX := Lib.hid hX
        have HC := Lib.hid hcl
        have HB := Lib.hid hB
        have HD := Lib.hid hD
        clear hX hcl hB hD hR hp
        refine WpO.step rfl (fun K hK => ?_)
        simp only [putAll, Act.put, List.setIfInBounds_toArray, List.set_cons_succ, List.set_cons_zero]
        go_simp
        refine (CE1.out w1 HB.out).mono ?_; rintro e w2 ⟨⟨a, c, rfl, hra⟩, b2⟩
        go_simp
        exact hK _ _ ⟨.slice a nd1 c, (by show _ = Act.put _ (some 30) _; simp only [putAll, Act.put, List.setIfInBounds_toArray, List.set_cons_succ, List.set_cons_zero, *]; all_goals rfl), ⟨a, c, rfl, hra⟩, b2, trivial⟩
      refine AllF.step (m := 18) (j := 7) rfl ?_ ?_
      · intro D f w1 hD hB hR hp hcl hX
        obtain ⟨a2, c2, e2, h2⟩ := (hpAt hp 2 (by kernel_rfl)).2
        replace e2 : f 27 = _ := e2
        obtain ⟨a5, c5, e5, h5⟩ := (hpAt hp 5 (by kernel_rfl)).2
        replace e5 : f 30 = _ := e5
        have HX := Lib.hid hX
        have HC := Lib.hid hcl
        have HB := Lib.hid hB
        have HD := Lib.hid hD
        clear hX hcl hB hD hR hp
        refine WpO.step rfl (fun K hK => ?_)
        simp only [putAll, Act.put, List.setIfInBounds_toArray, List.set_cons_succ, List.set_cons_zero]
        go_simp
        refine (CS1.out w1 a2 c2 a5 c5 h2 h5).mono ?_; rintro e w2 ⟨rfl, b2⟩
        go_simp
        exact hK _ _ ⟨.bool true, (by show _ = Act.put _ (some 31) _; simp only [putAll, Act.put, List.setIfInBounds_toArray, List.set_cons_succ, List.set_cons_zero, *]; all_goals rfl), rfl, b2, trivial⟩
      refine AllF.step (m := 17) (j := 8) rfl ?_ ?_
      · intro D f w1 hD hB hR hp hcl hX
        have e6 : f 31 = .bool true := (hpAt hp 6 (by kernel_rfl)).2
        have HX := Lib.hid hX
        have HC := Lib.hid hcl
        have HB := Lib.hid hB
        have HD := Lib.hid hD
        clear hX hcl hB hD hR hp
        refine WpO.step rfl (fun K hK => ?_)
        simp only [putAll, Act.put, List.setIfInBounds_toArray, List.set_cons_succ, List.set_cons_zero]
        go_simp
        exact hK _ _ ⟨.bool true, (by show _ = Act.put _ (some 32) _; simp only [putAll, Act.put, List.setIfInBounds_toArray, List.set_cons_succ, List.set_cons_zero, *]; all_goals rfl), rfl, Below.refl _ _, trivial⟩
      refine AllF.step (m := 16) (j := 9) rfl ?_ ?_
      · intro D f w1 hD hB hR hp hcl hX
        have e7 : f 32 = .bool true := (hpAt hp 7 (by kernel_rfl)).2
        have HX := Lib.hid hX
        have HC := Lib.hid hcl
        have HB := Lib.hid hB
        have HD := Lib.hid hD
        clear hX hcl hB hD hR hp
        refine WpO.guarded 7 32 true rfl rfl rfl (by kernel_rfl) (by kernel_rfl) e7 (fun K hK => ?_)
        simp only [putAll, Act.put, List.setIfInBounds_toArray, List.set_cons_succ, List.set_cons_zero]
        go_simp
        exact hK _ _ ⟨.slice aD nd2 cD, (by show _ = Act.put _ (some 33) _; simp only [putAll, Act.put, List.setIfInBounds_toArray, List.set_cons_succ, List.set_cons_zero, *]; all_goals rfl), rfl, Below.refl _ _, trivial⟩
      refine AllF.step (m := 15) (j := 10) rfl ?_ ?_
      · intro D f w1 hD hB hR hp hcl hX
        have e7 : f 32 = .bool true := (hpAt hp 7 (by kernel_rfl)).2
        obtain ⟨k0, k1, k2, k3, k4, k5, k6⟩ := (pb8 hB).cells
        have HX := Lib.hid hX
        have HC := Lib.hid hcl
        have HB := Lib.hid hB
        have HD := Lib.hid hD
        clear hX hcl hB hD hR hp
        refine WpO.guarded 7 32 true rfl rfl rfl (by kernel_rfl) (by kernel_rfl) e7 (fun K hK => ?_)
        simp only [putAll, Act.put, List.setIfInBounds_toArray, List.set_cons_succ, List.set_cons_zero]
        go_simp
        exact hK _ _ ⟨.agg #[.string pA.id, .string pA.co, .string pA.br, .int .i64 pA.d, .int .i64 pA.c, .int .i64 pA.a, .slice (some ⟨bA, 0, none⟩) nA cA], (by show _ = Act.put _ (some 34) _; simp only [putAll, Act.put, List.setIfInBounds_toArray, List.set_cons_succ, List.set_cons_zero, *]; all_goals rfl), rfl, Below.refl _ _, trivial⟩
      refine AllF.step (m := 14) (j := 11) rfl ?_ ?_
      · intro D f w1 hD hB hR hp hcl hX
        have e7 : f 32 = .bool true := (hpAt hp 7 (by kernel_rfl)).2
        obtain ⟨k0, k1, k2, k3, k4, k5, k6⟩ := (pb9 hB).cells
        have HX := Lib.hid hX
        have HC := Lib.hid hcl
        have HB := Lib.hid hB
        have HD := Lib.hid hD
        clear hX hcl hB hD hR hp
        refine WpO.guarded 7 32 true rfl rfl rfl (by kernel_rfl) (by kernel_rfl) e7 (fun K hK => ?_)
        simp only [putAll, Act.put, List.setIfInBounds_toArray, List.set_cons_succ, List.set_cons_zero]
        go_simp
        exact hK _ _ ⟨.agg #[.string pB.id, .string pB.co, .string pB.br, .int .i64 pB.d, .int .i64 pB.c, .int .i64 pB.a, .slice (some ⟨bB, 0, none⟩) nB cB], (by show _ = Act.put _ (some 35) _; simp only [putAll, Act.put, List.setIfInBounds_toArray, List.set_cons_succ, List.set_cons_zero, *]; all_goals rfl), rfl, Below.refl _ _, trivial⟩
      refine AllF.step (m := 13) (j := 12) rfl ?_ ?_
      · intro D f w1 hD hB hR hp hcl hX
        have e9 : f 34 = .agg #[.string pA.id, .string pA.co, .string pA.br, .int .i64 pA.d, .int .i64 pA.c, .int .i64 pA.a, .slice (some ⟨bA, 0, none⟩) nA cA] := (hpAt hp 9 (by kernel_rfl)).2
        have e10 : f 35 = .agg #[.string pB.id, .string pB.co, .string pB.br, .int .i64 pB.d, .int .i64 pB.c, .int .i64 pB.a, .slice (some ⟨bB, 0, none⟩) nB cB] := (hpAt hp 10 (by kernel_rfl)).2
        have e7 : f 32 = .bool true := (hpAt hp 7 (by kernel_rfl)).2
        have HX := Lib.hid hX
        have HC := Lib.hid hcl
        have HB := Lib.hid hB
        have HD := Lib.hid hD
        clear hX hcl hB hD hR hp
        refine WpO.guarded 7 32 true rfl rfl rfl (by kernel_rfl) (by kernel_rfl) e7 (fun K hK => ?_)
        simp only [putAll, Act.put, List.setIfInBounds_toArray, List.set_cons_succ, List.set_cons_zero]
        go_simp
        refine (CE2.out w1 HB.out).mono ?_; rintro e w2 ⟨⟨a, c, rfl, hra⟩, b2⟩
        go_simp
        exact hK _ _ ⟨.slice a nd2 c, (by show _ = Act.put _ (some 36) _; simp only [putAll, Act.put, List.setIfInBounds_toArray, List.set_cons_succ, List.set_cons_zero, *]; all_goals rfl), ⟨a, c, rfl, hra⟩, b2, trivial⟩
      refine AllF.step (m := 12) (j := 13) rfl ?_ ?_
      · intro D f w1 hD hB hR hp hcl hX
        have e8 : f 33 = .slice aD nd2 cD := (hpAt hp 8 (by kernel_rfl)).2
        have e7 : f 32 = .bool true := (hpAt hp 7 (by kernel_rfl)).2
        have hrD := rdD hB
        obtain ⟨a11, c11, e11, h11⟩ := (hpAt hp 11 (by kernel_rfl)).2
        replace e11 : f 36 = _ := e11
        have HX := Lib.hid hX
        have HC := Lib.hid hcl
        have HB := Lib.hid hB
        have HD := Lib.hid hD
        clear hX hcl hB hD hR hp
        refine WpO.guarded 7 32 true rfl rfl rfl (by kernel_rfl) (by kernel_rfl) e7 (fun K hK => ?_)
        simp only [putAll, Act.put, List.setIfInBounds_toArray, List.set_cons_succ, List.set_cons_zero]
        go_simp
        refine (CS2.out w1 aD cD a11 c11 hrD h11).mono ?_; rintro e w2 ⟨rfl, b2⟩
        go_simp
        exact hK _ _ ⟨.bool true, (by show _ = Act.put _ (some 37) _; simp only [putAll, Act.put, List.setIfInBounds_toArray, List.set_cons_succ, List.set_cons_zero, *]; all_goals rfl), rfl, b2, trivial⟩
      refine AllF.step (m := 11) (j := 14) rfl ?_ ?_
      · intro D f w1 hD hB hR hp hcl hX
        have e7 : f 32 = .bool true := (hpAt hp 7 (by kernel_rfl)).2
        have e12 : f 37 = .bool true := (hpAt hp 12 (by kernel_rfl)).2
        have HX := Lib.hid hX
        have HC := Lib.hid hcl
        have HB := Lib.hid hB
        have HD := Lib.hid hD
        clear hX hcl hB hD hR hp
        refine WpO.step rfl (fun K hK => ?_)
        simp only [putAll, Act.put, List.setIfInBounds_toArray, List.set_cons_succ, List.set_cons_zero]
        go_simp
        exact hK _ _ ⟨.bool true, (by show _ = Act.put _ (some 38) _; simp only [putAll, Act.put, List.setIfInBounds_toArray, List.set_cons_succ, List.set_cons_zero, *]; all_goals rfl), rfl, Below.refl _ _, trivial⟩
      refine AllF.step (m := 10) (j := 15) rfl ?_ ?_
      · intro D f w1 hD hB hR hp hcl hX
        have e13 : f 38 = .bool true := (hpAt hp 13 (by kernel_rfl)).2
        have HX := Lib.hid hX
        have HC := Lib.hid hcl
        have HB := Lib.hid hB
        have HD := Lib.hid hD
        clear hX hcl hB hD hR hp
        refine WpO.step rfl (fun K hK => ?_)
        simp only [putAll, Act.put, List.setIfInBounds_toArray, List.set_cons_succ, List.set_cons_zero]
        go_simp
        exact hK _ _ ⟨.bool true, (by show _ = Act.put _ (some 39) _; simp only [putAll, Act.put, List.setIfInBounds_toArray, List.set_cons_succ, List.set_cons_zero, *]; all_goals rfl), rfl, Below.refl _ _, trivial⟩
      refine AllF.step (m := 9) (j := 16) rfl ?_ ?_
      · intro D f w1 hD hB hR hp hcl hX
        have e14 : f 39 = .bool true := (hpAt hp 14 (by kernel_rfl)).2
        obtain ⟨k0, k1, k2, k3, k4, k5, k6⟩ := (pb9 hB).cells
        have HX := Lib.hid hX
        have HC := Lib.hid hcl
        have HB := Lib.hid hB
        have HD := Lib.hid hD
        clear hX hcl hB hD hR hp
        refine WpO.guarded 14 39 true rfl rfl rfl (by kernel_rfl) (by kernel_rfl) e14 (fun K hK => ?_)
        simp only [putAll, Act.put, List.setIfInBounds_toArray, List.set_cons_succ, List.set_cons_zero]
        go_simp
        exact hK _ _ ⟨.agg #[.string pB.id, .string pB.co, .string pB.br, .int .i64 pB.d, .int .i64 pB.c, .int .i64 pB.a, .slice (some ⟨bB, 0, none⟩) nB cB], (by show _ = Act.put _ (some 40) _; simp only [putAll, Act.put, List.setIfInBounds_toArray, List.set_cons_succ, List.set_cons_zero, *]; all_goals rfl), rfl, Below.refl _ _, trivial⟩
      refine AllF.step (m := 8) (j := 17) rfl ?_ ?_
      · intro D f w1 hD hB hR hp hcl hX
        have e14 : f 39 = .bool true := (hpAt hp 14 (by kernel_rfl)).2
        obtain ⟨k0, k1, k2, k3, k4, k5, k6⟩ := (pb8 hB).cells
        have HX := Lib.hid hX
        have HC := Lib.hid hcl
        have HB := Lib.hid hB
        have HD := Lib.hid hD
        clear hX hcl hB hD hR hp
        refine WpO.guarded 14 39 true rfl rfl rfl (by kernel_rfl) (by kernel_rfl) e14 (fun K hK => ?_)
        simp only [putAll, Act.put, List.setIfInBounds_toArray, List.set_cons_succ, List.set_cons_zero]
        go_simp
        exact hK _ _ ⟨.agg #[.string pA.id, .string pA.co, .string pA.br, .int .i64 pA.d, .int .i64 pA.c, .int .i64 pA.a, .slice (some ⟨bA, 0, none⟩) nA cA], (by show _ = Act.put _ (some 41) _; simp only [putAll, Act.put, List.setIfInBounds_toArray, List.set_cons_succ, List.set_cons_zero, *]; all_goals rfl), rfl, Below.refl _ _, trivial⟩
      refine AllF.step (m := 7) (j := 18) rfl ?_ ?_
      · intro D f w1 hD hB hR hp hcl hX
        have e15 : f 40 = .agg #[.string pB.id, .string pB.co, .string pB.br, .int .i64 pB.d, .int .i64 pB.c, .int .i64 pB.a, .slice (some ⟨bB, 0, none⟩) nB cB] := (hpAt hp 15 (by kernel_rfl)).2
        have e16 : f 41 = .agg #[.string pA.id, .string pA.co, .string pA.br, .int .i64 pA.d, .int .i64 pA.c, .int .i64 pA.a, .slice (some ⟨bA, 0, none⟩) nA cA] := (hpAt hp 16 (by kernel_rfl)).2
        have e14 : f 39 = .bool true := (hpAt hp 14 (by kernel_rfl)).2
        have HX := Lib.hid hX
        have HC := Lib.hid hcl
        have HB := Lib.hid hB
        have HD := Lib.hid hD
        clear hX hcl hB hD hR hp
        refine WpO.guarded 14 39 true rfl rfl rfl (by kernel_rfl) (by kernel_rfl) e14 (fun K hK => ?_)
        simp only [putAll, Act.put, List.setIfInBounds_toArray, List.set_cons_succ, List.set_cons_zero]
        go_simp
        refine (CD2.out w1 HB.out).mono ?_; rintro e w2 ⟨⟨a, c, rfl, hra⟩, b2⟩
        go_simp
        exact hK _ _ ⟨.slice a nd2 c, (by show _ = Act.put _ (some 42) _; simp only [putAll, Act.put, List.setIfInBounds_toArray, List.set_cons_succ, List.set_cons_zero, *]; all_goals rfl), ⟨a, c, rfl, hra⟩, b2, trivial⟩
      refine AllF.step (m := 6) (j := 19) rfl ?_ ?_
      · intro D f w1 hD hB hR hp hcl hX
        have e14 : f 39 = .bool true := (hpAt hp 14 (by kernel_rfl)).2
        have HX := Lib.hid hX
        have HC := Lib.hid hcl
        have HB := Lib.hid hB
        have HD := Lib.hid hD
        clear hX hcl hB hD hR hp
        refine WpO.guarded 14 39 true rfl rfl rfl (by kernel_rfl) (by kernel_rfl) e14 (fun K hK => ?_)
        simp only [putAll, Act.put, List.setIfInBounds_toArray, List.set_cons_succ, List.set_cons_zero]
        go_simp
        exact hK _ _ ⟨.slice aD nd2 cD, (by show _ = Act.put _ (some 43) _; simp only [putAll, Act.put, List.setIfInBounds_toArray, List.set_cons_succ, List.set_cons_zero, *]; all_goals rfl), rfl, Below.refl _ _, trivial⟩
      refine AllF.step (m := 5) (j := 20) rfl ?_ ?_
      · intro D f w1 hD hB hR hp hcl hX
        have e18 : f 43 = .slice aD nd2 cD := (hpAt hp 18 (by kernel_rfl)).2
        have e14 : f 39 = .bool true := (hpAt hp 14 (by kernel_rfl)).2
        have hrD := rdD hB
        obtain ⟨a17, c17, e17, h17⟩ := (hpAt hp 17 (by kernel_rfl)).2
        replace e17 : f 42 = _ := e17
        have HX := Lib.hid hX
        have HC := Lib.hid hcl
        have HB := Lib.hid hB
        have HD := Lib.hid hD
        clear hX hcl hB hD hR hp
        refine WpO.guarded 14 39 true rfl rfl rfl (by kernel_rfl) (by kernel_rfl) e14 (fun K hK => ?_)
        simp only [putAll, Act.put, List.setIfInBounds_toArray, List.set_cons_succ, List.set_cons_zero]
        go_simp
        refine (CS2.out w1 a17 c17 aD cD h17 hrD).mono ?_; rintro e w2 ⟨rfl, b2⟩
        go_simp
        exact hK _ _ ⟨.bool true, (by show _ = Act.put _ (some 44) _; simp only [putAll, Act.put, List.setIfInBounds_toArray, List.set_cons_succ, List.set_cons_zero, *]; all_goals rfl), rfl, b2, trivial⟩
      refine AllF.step (m := 4) (j := 21) rfl ?_ ?_
      · intro D f w1 hD hB hR hp hcl hX
        have e14 : f 39 = .bool true := (hpAt hp 14 (by kernel_rfl)).2
        have e19 : f 44 = .bool true := (hpAt hp 19 (by kernel_rfl)).2
        have HX := Lib.hid hX
        have HC := Lib.hid hcl
        have HB := Lib.hid hB
        have HD := Lib.hid hD
        clear hX hcl hB hD hR hp
        refine WpO.step rfl (fun K hK => ?_)
        simp only [putAll, Act.put, List.setIfInBounds_toArray, List.set_cons_succ, List.set_cons_zero]
        go_simp
        exact hK _ _ ⟨.bool true, (by show _ = Act.put _ (some 45) _; simp only [putAll, Act.put, List.setIfInBounds_toArray, List.set_cons_succ, List.set_cons_zero, *]; all_goals rfl), rfl, Below.refl _ _, trivial⟩
      refine AllF.step (m := 3) (j := 22) rfl ?_ ?_
      · intro D f w1 hD hB hR hp hcl hX
        have e20 : f 45 = .bool true := (hpAt hp 20 (by kernel_rfl)).2
        have HX := Lib.hid hX
        have HC := Lib.hid hcl
        have HB := Lib.hid hB
        have HD := Lib.hid hD
        clear hX hcl hB hD hR hp
        refine WpO.step rfl (fun K hK => ?_)
        simp only [putAll, Act.put, List.setIfInBounds_toArray, List.set_cons_succ, List.set_cons_zero]
        go_simp
        exact hK _ _ ⟨.bool true, (by show _ = Act.put _ (some 46) _; simp only [putAll, Act.put, List.setIfInBounds_toArray, List.set_cons_succ, List.set_cons_zero, *]; all_goals rfl), rfl, Below.refl _ _, trivial⟩
      refine AllF.step (m := 2) (j := 23) rfl ?_ ?_
      · intro D f w1 hD hB hR hp hcl hX
        have e21 : f 46 = .bool true := (hpAt hp 21 (by kernel_rfl)).2
        have HX := Lib.hid hX
        have HC := Lib.hid hcl
        have HB := Lib.hid hB
        have HD := Lib.hid hD
        clear hX hcl hB hD hR hp
        refine WpO.guarded 21 46 true rfl rfl rfl (by kernel_rfl) (by kernel_rfl) e21 (fun K hK => ?_)
        simp only [putAll, Act.put, List.setIfInBounds_toArray, List.set_cons_succ, List.set_cons_zero]
        go_simp
        refine (awake_v w1).mono ?_; rintro e w2 ⟨rfl, b2⟩
        go_simp
        exact hK _ _ ⟨.bool true, (by show _ = Act.put _ (some 47) _; simp only [putAll, Act.put, List.setIfInBounds_toArray, List.set_cons_succ, List.set_cons_zero, *]; all_goals rfl), rfl, b2, trivial⟩
      refine AllF.step (m := 1) (j := 24) rfl ?_ ?_
      · intro D f w1 hD hB hR hp hcl hX
        have e21 : f 46 = .bool true := (hpAt hp 21 (by kernel_rfl)).2
        have e22 : f 47 = .bool true := (hpAt hp 22 (by kernel_rfl)).2
        have HX := Lib.hid hX
        have HC := Lib.hid hcl
        have HB := Lib.hid hB
        have HD := Lib.hid hD
        clear hX hcl hB hD hR hp
        refine WpO.step rfl (fun K hK => ?_)
        simp only [putAll, Act.put, List.setIfInBounds_toArray, List.set_cons_succ, List.set_cons_zero]
        go_simp
        exact hK _ _ ⟨.bool true, (by show _ = Act.put _ (some 48) _; simp only [putAll, Act.put, List.setIfInBounds_toArray, List.set_cons_succ, List.set_cons_zero, *]; all_goals rfl), rfl, Below.refl _ _, trivial⟩
      refine AllF.step (m := 0) (j := 25) rfl ?_ ?_
      · intro D f w1 hD hB hR hp hcl hX
        have e23 : f 48 = .bool true := (hpAt hp 23 (by kernel_rfl)).2
        have HX := Lib.hid hX
        have HC := Lib.hid hcl
        have HB := Lib.hid hB
        have HD := Lib.hid hD
        clear hX hcl hB hD hR hp
        refine WpO.step rfl (fun K hK => ?_)
        simp only [putAll, Act.put, List.setIfInBounds_toArray, List.set_cons_succ, List.set_cons_zero]
        go_simp
        exact hK _ _ ⟨.bool true, (by show _ = Act.put _ (some 6) _; simp only [putAll, Act.put, List.setIfInBounds_toArray, List.set_cons_succ, List.set_cons_zero, *]; all_goals rfl), rfl, Below.refl _ _, trivial⟩
      exact trivial
    · intro D f w9 hD hB hR hX
      have e6 : f 6 = .bool true := hR 24 (by decide)
      have HBF := Lib.hid (keep BW8.out hB)
      clear hD hB hR hX pb0 pb1 pb8 pb9 rdD
      simp only [putAll, Act.put, List.setIfInBounds_toArray, List.set_cons_succ, List.set_cons_zero, e6]
      go_wp2_with fail
      go_ret
      exact ⟨rfl, HBF.out⟩
end Go.Proofs.Ytpoipkjchnopbaa.P9
