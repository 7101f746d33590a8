import Derived.Test.YtkedgkfdmdlhoaaDoorFrameP9
import Derived.Test.YtkedgkfdmdlhoaaDoorPrd2
import Derived.Test.YtkedgkfdmdlhoaaDoorSsaT
/- Layer 9: the law's raw, as in PrdR, with the ID's size and the range of the size's numbers. -/
namespace Go.Proofs.YtkedgkfdmdlhoaaDoor.P9
open Go.RowKit Go.Sort C6

def RP (l : List (Value → Prop)) (i : Nat) (v : Value) (_ : World) : Prop := (l.getD i (fun _ => True)) v
def pV (x : Value) : Value → Prop := fun v => v = x
def pT : Value → Prop := fun _ => True
/-- the three numbers of a size are numbers of the machine -/
structure QB (d c a : Int) : Prop where
  d0 : -9223372036854775808 ≤ d
  d1 : d ≤ 9223372036854775807
  c0 : -9223372036854775808 ≤ c
  c1 : c ≤ 9223372036854775807
  a0 : -9223372036854775808 ≤ a
  a1 : a ≤ 9223372036854775807
theorem field4_v (p : Pd) (a : Option Addr) (n c : Nat) (w : World) : (Instr.field 26 (.agg #[.string p.id, .string p.co, .string p.br, .int .i64 p.d, .int .i64 p.c, .int .i64 p.a, .slice a n c]) 4).run Tryd.prog w = .ok (.slice a n c) w := by kernel_rfl
/-- sizes of a product's strings, and the range of its numbers -/
structure Sz (p : Pd) (l : List Atr) : Prop where
  co : p.co.size ≤ 100
  br : p.br.size ≤ 100
  at1 : ∀ x ∈ l, x.1.size ≤ 100 ∧ x.2.size ≤ 100
  id : p.id.size ≤ 100
  qb : QB p.d p.c p.a
theorem below_ge {N : Nat} {w : World} (h : N ≤ w.heap.size) {o : Obj} : Below N w (w.alloc o) := (below_new w o).mono h
theorem row_two {w : World} {g : Nat} {a b : ByteArray} (h : w.heap[g]? = some (.cells #[.string a, .string b] 52 (0, 0))) : ∀ j u, (atv [(a, b)])[j]? = some u → w.cell? ((⟨g, 0, none⟩ : Addr).add j) = some u := by
  intro j u hj
  rw [Addr.add_lit, Nat.zero_add]
  have hl : j < 2 := (List.getElem?_eq_some_iff.1 hj).1
  have : j = 0 ∨ j = 1 := by omega
  rcases this with rfl | rfl <;> · simp [atv, encA] at hj; subst hj; simp [World.cell?, h]
/-- the attributes of a raw product -/
def rawA (x : Atr) : Atr := (x.1.extract 0 (min x.1.size 30), x.2.extract 0 (min x.2.size 30))
def rawl9 (l : List Atr) : List Atr := (l.take 14).map rawA
theorem rawl9_len (l : List Atr) : (rawl9 l).length = min 14 l.length := by unfold rawl9; rw [List.length_map, List.length_take]
theorem ext_sz (s : ByteArray) (m : Nat) : (s.extract 0 m).size ≤ m := by rw [ByteArray.size_extract]; omega
theorem rawl9_sz (l : List Atr) : ∀ x ∈ rawl9 l, x.1.size ≤ 100 ∧ x.2.size ≤ 100 := by
  intro x hx
  obtain ⟨y, _, rfl⟩ := List.mem_map.1 hx
  have h1 := ext_sz y.1 (min y.1.size 30)
  have h2 := ext_sz y.2 (min y.2.size 30)
  exact ⟨by show (y.1.extract 0 (min y.1.size 30)).size ≤ 100; omega, by show (y.2.extract 0 (min y.2.size 30)).size ≤ 100; omega⟩
theorem rawl9_next {l : List Atr} {i : Nat} (hi : i < l.length) (h : i < 14) : (rawl9 l).take (i + 1) = (rawl9 l).take i ++ [rawA (l.getD i e2)] := by
  have hg : (rawl9 l)[i]? = some (rawA (l.getD i e2)) := by
    unfold rawl9
    rw [List.getElem?_map, List.getElem?_take, if_pos h, List.getElem?_eq_getElem hi, Option.map_some]
    simp [List.getD, hi]
  rw [List.take_add_one, hg]
  rfl
def Bxa (w : World) (g : Nat) (a b : ByteArray) : Prop := w.cell? ⟨g, 0, none⟩ = some (.string a) ∧ w.cell? ⟨g, 1, none⟩ = some (.string b)
theorem Bxa.below {w w' : World} {g : Nat} {a b : ByteArray} (h : Bxa w g a b) (k : Below w.heap.size w w') : Bxa w' g a b := by
  have hl : g < w.heap.size := World.block_lt_of_cell? _ _ h.1
  exact ⟨(World.cell?_of_block (a := ⟨g, 0, none⟩) (k.block g hl)).trans h.1, (World.cell?_of_block (a := ⟨g, 1, none⟩) (k.block g hl)).trans h.2⟩
theorem Bxa.grown {w w' : World} {g : Nat} {a b : ByteArray} {row : Option Nat} (h : Bxa w g a b) (k : w.grownBy w' row) (hne : some g ≠ row) : Bxa w' g a b := by
  have hl : g < w.heap.size := World.block_lt_of_cell? _ _ h.1
  exact ⟨(World.cell?_of_block (a := ⟨g, 0, none⟩) (k.block g hl hne)).trans h.1, (World.cell?_of_block (a := ⟨g, 1, none⟩) (k.block g hl hne)).trans h.2⟩
theorem Bxa.new (_w : World) (a b : ByteArray) : Bxa (_w.alloc (.cells #[.string a, .string b] 52)) _w.heap.size a b := by
  unfold Bxa World.alloc
  simp [World.cell?]
def RwR1 (p : Pd) (g m0 m1 m2 : Nat) : List (Value → Prop) := [pV (.pointer (some ⟨g, 0, none⟩)), pV (.string p.id), pV (.pointer (some ⟨g, 0, none⟩)), pV (.string p.id), pV (.int .i64 (p.id.size : Int)), pV (.int .i64 (m0 : Int)), pV (.string (p.id.extract 0 m0)), pV (.pointer (some ⟨g, 1, none⟩)), pV (.string p.co), pV (.pointer (some ⟨g, 1, none⟩)), pV (.string p.co), pV (.int .i64 (p.co.size : Int)), pV (.int .i64 (m1 : Int)), pV (.string (p.co.extract 0 m1)), pV (.pointer (some ⟨g, 2, none⟩)), pV (.string p.br), pV (.pointer (some ⟨g, 2, none⟩)), pV (.string p.br), pV (.int .i64 (p.br.size : Int)), pV (.int .i64 (m2 : Int)), pV (.string (p.br.extract 0 m2)), pV (.pointer (some ⟨g, 3, none⟩)), pV (.agg #[.int .i64 p.d, .int .i64 p.c, .int .i64 p.a]), pV (.agg #[.string (p.id.extract 0 m0), .string (p.co.extract 0 m1), .string (p.br.extract 0 m2), .int .i64 p.d, .int .i64 p.c, .int .i64 p.a, .slice none 0 0]), pT, pT]
def RwX1 (p : Pd) (N m0 m1 m2 : Nat) (D : Nat → Bool) (f : Nat → Value) (w : World) : Prop := (D 24 = true → D 25 = false → ∃ gb, f 3 = .pointer (some ⟨gb, 0, none⟩) ∧ N ≤ gb ∧ PB w gb Pd.zero (.slice none 0 0)) ∧ (D 25 = true → ∃ gb, f 3 = .pointer (some ⟨gb, 0, none⟩) ∧ N ≤ gb ∧ PB w gb ⟨p.id.extract 0 m0, p.co.extract 0 m1, p.br.extract 0 m2, p.d, p.c, p.a⟩ (.slice none 0 0))
def RwR5 (v : Value) (gb g5 : Nat) (s1 s2 : ByteArray) (n1 n2 : Nat) : List (Value → Prop) := [pV (.pointer (some ⟨gb, 6, none⟩)), pV (v), pV (.pointer (some ⟨g5, 0, none⟩)), pV (.string s1), pV (.pointer (some ⟨g5, 0, none⟩)), pV (.string s1), pV (.int .i64 (s1.size : Int)), pV (.int .i64 (n1 : Int)), pV (.string (s1.extract 0 n1)), pV (.pointer (some ⟨g5, 1, none⟩)), pV (.string s2), pV (.pointer (some ⟨g5, 1, none⟩)), pV (.string s2), pV (.int .i64 (s2.size : Int)), pV (.int .i64 (n2 : Int)), pV (.string (s2.extract 0 n2)), pV (.agg #[.string (s1.extract 0 n1), .string (s2.extract 0 n2)]), pT, pT, pV (.pointer (some ⟨gb, 6, none⟩)), pT]
def RwX5 (l : List Atr) (i : Nat) (v : Value) (rp : Pd) (gb g5 M : Nat) (s1 s2 : ByteArray) (n1 n2 : Nat) (D : Nat → Bool) (f : Nat → Value) (w : World) : Prop := Bxa w g5 s1 s2 ∧ (D 18 = false → PB w gb rp v ∧ w.ownsRow M 52 2 v i (atv ((rawl9 l).take i))) ∧ (D 17 = true → D 18 = false → ∃ gr, f 59 = .slice (some ⟨gr, 0, none⟩) 1 1 ∧ w.heap[gr]? = some (.cells #[.string (s1.extract 0 n1), .string (s2.extract 0 n2)] 52 (0, 0))) ∧ (D 18 = true → ∃ a c, f 60 = .slice a (i + 1) c ∧ w.ownsRow M 52 2 (.slice a (i + 1) c) (i + 1) (atv ((rawl9 l).take (i + 1))) ∧ (D 20 = false → PB w gb rp v) ∧ (D 20 = true → PB w gb rp (.slice a (i + 1) c)))
/-- what raw and spoiled return: a product of short strings with at most 14 attributes -/
def Smp (_w : World) (e : Ending) (w' : World) : Prop := ∃ (p : Pd) (ao : Option Addr) (l : List Atr) (cap : Nat), e = .returned (.agg #[.string p.id, .string p.co, .string p.br, .int .i64 p.d, .int .i64 p.c, .int .i64 p.a, .slice ao l.length cap]) ∧ RdA w' ao cap l ∧ l.length ≤ 14 ∧ Sz p l

/-- the same, and where the attributes lie -/
def SmpN (w : World) (e : Ending) (w' : World) : Prop := ∃ (p : Pd) (ao : Option Addr) (l : List Atr) (cap : Nat), e = .returned (.agg #[.string p.id, .string p.co, .string p.br, .int .i64 p.d, .int .i64 p.c, .int .i64 p.a, .slice ao l.length cap]) ∧ RdA w' ao cap l ∧ l.length ≤ 14 ∧ Sz p l ∧ offB ao l (fun b => w.heap.size ≤ b)

set_option maxHeartbeats 16000000 in
set_option maxRecDepth 100000 in
theorem raw9_n (p : Pd) (ao : Option Addr) (cap : Nat) (l : List Atr) (w : World) (h : RdA w ao cap l) (hs : SL l) (hqb : QB p.d p.c p.a) :
    Calls Tryd.prog 7 #[.agg #[.string p.id, .string p.co, .string p.br, .int .i64 p.d, .int .i64 p.c, .int .i64 p.a, .slice ao l.length cap]] w fun e w' => SmpN w e w' ∧ Below w.heap.size w w' := by
  obtain ⟨i0, hi, hz0, hz1, hz2⟩ := info_parts infoAtr
  obtain ⟨n, hn⟩ : ∃ n, n = l.length := ⟨_, rfl⟩
  obtain ⟨W2, hW2⟩ : ∃ W, W = (w.alloc (.cells #[.string p.id, .string p.co, .string p.br, .int .i64 p.d, .int .i64 p.c, .int .i64 p.a, .slice ao n cap] 26)).alloc (.cells #[.string ⟨#[]⟩, .string ⟨#[]⟩, .string ⟨#[]⟩, .int .i64 0, .int .i64 0, .int .i64 0, .slice none 0 0] 26) := ⟨_, rfl⟩
  obtain ⟨P2, Q2, B2, s2⟩ := boxes2 w p (.slice ao n cap) W2 hW2
  have R2 := h.below B2
  obtain ⟨m0, hm0⟩ : ∃ m : Nat, min (p.id.size : Int) 20 = (m : Int) := ⟨(min (p.id.size : Int) 20).toNat, by omega⟩
  obtain ⟨m1, hm1⟩ : ∃ m : Nat, min (p.co.size : Int) 20 = (m : Int) := ⟨(min (p.co.size : Int) 20).toNat, by omega⟩
  obtain ⟨m2, hm2⟩ : ∃ m : Nat, min (p.br.size : Int) 30 = (m : Int) := ⟨(min (p.br.size : Int) 30).toNat, by omega⟩
  have HM0 : Hid (min (p.id.size : Int) 20 = (m0 : Int) ∧ m0 ≤ p.id.size) := ⟨hm0, by omega⟩
  have HM1 : Hid (min (p.co.size : Int) 20 = (m1 : Int) ∧ m1 ≤ p.co.size) := ⟨hm1, by omega⟩
  have HM2 : Hid (min (p.br.size : Int) 30 = (m2 : Int) ∧ m2 ≤ p.br.size) := ⟨hm2, by omega⟩
  have HMS : Hid (m1 ≤ 20 ∧ m2 ≤ 30 ∧ m0 ≤ 20) := ⟨by omega, by omega, by omega⟩
  have HQB := Lib.hid hqb
  obtain ⟨q, hq⟩ : ∃ q : Nat, min (n : Int) 14 = (q : Int) := ⟨(min (n : Int) 14).toNat, by omega⟩
  have HQ : Hid (q = min 14 n ∧ min (n : Int) 14 = (q : Int)) := ⟨by omega, hq⟩
  obtain ⟨g, hg⟩ : ∃ g, g = w.heap.size := ⟨_, rfl⟩
  obtain ⟨N, hN⟩ : ∃ N, N = w.heap.size + 2 := ⟨_, rfl⟩
  rw [← hN] at s2
  have hgN : g + 1 < N := by omega
  have HLT := Lib.hid h.lt
  have hcap := h.1
  have hcap2 := h.2.1
  rw [← hn] at hcap
  have HP2 := Lib.hid P2
  have HQ2 := Lib.hid Q2
  have HB2 := Lib.hid B2
  have HS2 := Lib.hid s2
  have HR2 := Lib.hid R2
  have HNL := Lib.hid hn
  have HNO : Hid (ao = none → cap = 0 ∧ n = 0) := fun e => by
    have := h.2.2
    rcases this with ⟨e1, e2⟩ | ⟨b, o, e3, _⟩
    · have := e2 e; omega
    · rw [e] at e3; cases e3
  rw [← hg] at HP2 HQ2
  have HSL : Hid (SL l) := hs
  have HGW : Hid (w.heap.size = g ∧ w.heap.size ≤ N) := ⟨hg.symm, by omega⟩
  rw [← hn]
  clear P2 Q2 B2 s2 R2 h hs hqb hn hm0 hm1 hm2 hq hN
  go_enter Tryd.func7, Tryd.ntmps7
  go_wp2_with fail
  rw [← hW2]
  try rw [← hg]
  clear hW2 hg
  have hsz : ∀ {w1 : World}, Below N W2 w1 → N ≤ w1.heap.size := fun h => by have := h.size; have := HS2.out; omega
  have pb : ∀ {w1 : World}, Below N W2 w1 → PB w1 g p (.slice ao n cap) := fun h => HP2.out.below (by rw [HS2.out]; exact h)
  refine wp_region_any (by kernel_rfl) ?_
  refine region_ssa [6, 7, 8, 9, 10, 11, 12, 13, 14, 15, 16, 17, 18, 19, 20, 21, 22, 23, 24, 25, 26, 27, 28, 29, 3] (Below N W2) (Below N) (RP (RwR1 p g m0 m1 m2)) (RwX1 p N m0 m1 m2) (fun f => rfl) (by kernel_rfl) (by kernel_rfl) ?_ ?_ ?_ ?_ (AllF.below (n := 26) ?_) ?_
  · exact (Below.refl _ _).drew
  · intro f; exact ⟨fun h => (by cases h), fun h => (by cases h)⟩
  · intro i v w1 w2 _ h _; exact h
  · intro w1 w2 hB hE; exact hB.trans hE
  · refine AllF.step (m := 25) (j := 1) rfl ?_ ?_
    · intro D f w1 hD hB hR hp hcl hX
      have HX := Lib.hid hX
      have HC := Lib.hid hcl
      have HB := Lib.hid hB
      have HD := Lib.hid hD
      clear hX hcl hB hD hR hp
      refine wpOp_step rfl (fun K hK => ?_)
      simp only [putAll, Act.put, List.setIfInBounds_toArray, List.set_cons_succ, List.set_cons_zero]
      go_simp
      exact hK _ _ ⟨.pointer (some ⟨g, 0, none⟩), (by show _ = Act.put _ (some 6) _; simp only [putAll, Act.put, List.setIfInBounds_toArray, List.set_cons_succ, List.set_cons_zero, *]; all_goals rfl), rfl, Below.refl _ _, HX.out⟩
    refine AllF.step (m := 24) (j := 2) rfl ?_ ?_
    · intro D f w1 hD hB hR hp hcl hX
      have e0 : f 6 = .pointer (some ⟨g, 0, none⟩) := (hpAt hp 0 (by kernel_rfl)).2
      obtain ⟨k0, k1, k2, k3, k4, k5, k6⟩ := (pb hB).cells
      have HX := Lib.hid hX
      have HC := Lib.hid hcl
      have HB := Lib.hid hB
      have HD := Lib.hid hD
      clear hX hcl hB hD hR hp
      refine wpOp_step rfl (fun K hK => ?_)
      simp only [putAll, Act.put, List.setIfInBounds_toArray, List.set_cons_succ, List.set_cons_zero]
      go_simp
      exact hK _ _ ⟨.string p.id, (by show _ = Act.put _ (some 7) _; simp only [putAll, Act.put, List.setIfInBounds_toArray, List.set_cons_succ, List.set_cons_zero, *]; all_goals rfl), rfl, Below.refl _ _, HX.out⟩
    refine AllF.step (m := 23) (j := 3) rfl ?_ ?_
    · intro D f w1 hD hB hR hp hcl hX
      have HX := Lib.hid hX
      have HC := Lib.hid hcl
      have HB := Lib.hid hB
      have HD := Lib.hid hD
      clear hX hcl hB hD hR hp
      refine wpOp_step rfl (fun K hK => ?_)
      simp only [putAll, Act.put, List.setIfInBounds_toArray, List.set_cons_succ, List.set_cons_zero]
      go_simp
      exact hK _ _ ⟨.pointer (some ⟨g, 0, none⟩), (by show _ = Act.put _ (some 8) _; simp only [putAll, Act.put, List.setIfInBounds_toArray, List.set_cons_succ, List.set_cons_zero, *]; all_goals rfl), rfl, Below.refl _ _, HX.out⟩
    refine AllF.step (m := 22) (j := 4) rfl ?_ ?_
    · intro D f w1 hD hB hR hp hcl hX
      have e2 : f 8 = .pointer (some ⟨g, 0, none⟩) := (hpAt hp 2 (by kernel_rfl)).2
      obtain ⟨k0, k1, k2, k3, k4, k5, k6⟩ := (pb hB).cells
      have HX := Lib.hid hX
      have HC := Lib.hid hcl
      have HB := Lib.hid hB
      have HD := Lib.hid hD
      clear hX hcl hB hD hR hp
      refine wpOp_step rfl (fun K hK => ?_)
      simp only [putAll, Act.put, List.setIfInBounds_toArray, List.set_cons_succ, List.set_cons_zero]
      go_simp
      exact hK _ _ ⟨.string p.id, (by show _ = Act.put _ (some 9) _; simp only [putAll, Act.put, List.setIfInBounds_toArray, List.set_cons_succ, List.set_cons_zero, *]; all_goals rfl), rfl, Below.refl _ _, HX.out⟩
    refine AllF.step (m := 21) (j := 5) rfl ?_ ?_
    · intro D f w1 hD hB hR hp hcl hX
      have e3 : f 9 = .string p.id := (hpAt hp 3 (by kernel_rfl)).2
      have HX := Lib.hid hX
      have HC := Lib.hid hcl
      have HB := Lib.hid hB
      have HD := Lib.hid hD
      clear hX hcl hB hD hR hp
      refine wpOp_step rfl (fun K hK => ?_)
      simp only [putAll, Act.put, List.setIfInBounds_toArray, List.set_cons_succ, List.set_cons_zero]
      go_simp
      exact hK _ _ ⟨.int .i64 (p.id.size : Int), (by show _ = Act.put _ (some 10) _; simp only [putAll, Act.put, List.setIfInBounds_toArray, List.set_cons_succ, List.set_cons_zero, *]; all_goals rfl), rfl, Below.refl _ _, HX.out⟩
    refine AllF.step (m := 20) (j := 6) rfl ?_ ?_
    · intro D f w1 hD hB hR hp hcl hX
      have e4 : f 10 = .int .i64 (p.id.size : Int) := (hpAt hp 4 (by kernel_rfl)).2
      have hm := HM0.out.1
      have HX := Lib.hid hX
      have HC := Lib.hid hcl
      have HB := Lib.hid hB
      have HD := Lib.hid hD
      clear hX hcl hB hD hR hp
      refine wpOp_step rfl (fun K hK => ?_)
      simp only [putAll, Act.put, List.setIfInBounds_toArray, List.set_cons_succ, List.set_cons_zero]
      go_simp
      exact hK _ _ ⟨.int .i64 (m0 : Int), (by show _ = Act.put _ (some 11) _; simp only [putAll, Act.put, List.setIfInBounds_toArray, List.set_cons_succ, List.set_cons_zero, *]; all_goals rfl), rfl, Below.refl _ _, HX.out⟩
    refine AllF.step (m := 19) (j := 7) rfl ?_ ?_
    · intro D f w1 hD hB hR hp hcl hX
      have e1 : f 7 = .string p.id := (hpAt hp 1 (by kernel_rfl)).2
      have e5 : f 11 = .int .i64 (m0 : Int) := (hpAt hp 5 (by kernel_rfl)).2
      have hm := HM0.out.2
      have hmI : (m0 : Int) ≤ (p.id.size : Int) := by omega
      have HX := Lib.hid hX
      have HC := Lib.hid hcl
      have HB := Lib.hid hB
      have HD := Lib.hid hD
      clear hX hcl hB hD hR hp
      refine wpOp_step rfl (fun K hK => ?_)
      simp only [putAll, Act.put, List.setIfInBounds_toArray, List.set_cons_succ, List.set_cons_zero]
      go_simp
      exact hK _ _ ⟨.string (p.id.extract 0 m0), (by show _ = Act.put _ (some 12) _; simp only [putAll, Act.put, List.setIfInBounds_toArray, List.set_cons_succ, List.set_cons_zero, *]; all_goals rfl), rfl, Below.refl _ _, HX.out⟩
    refine AllF.step (m := 18) (j := 8) rfl ?_ ?_
    · intro D f w1 hD hB hR hp hcl hX
      have HX := Lib.hid hX
      have HC := Lib.hid hcl
      have HB := Lib.hid hB
      have HD := Lib.hid hD
      clear hX hcl hB hD hR hp
      refine wpOp_step rfl (fun K hK => ?_)
      simp only [putAll, Act.put, List.setIfInBounds_toArray, List.set_cons_succ, List.set_cons_zero]
      go_simp
      exact hK _ _ ⟨.pointer (some ⟨g, 1, none⟩), (by show _ = Act.put _ (some 13) _; simp only [putAll, Act.put, List.setIfInBounds_toArray, List.set_cons_succ, List.set_cons_zero, *]; all_goals rfl), rfl, Below.refl _ _, HX.out⟩
    refine AllF.step (m := 17) (j := 9) rfl ?_ ?_
    · intro D f w1 hD hB hR hp hcl hX
      have e7 : f 13 = .pointer (some ⟨g, 1, none⟩) := (hpAt hp 7 (by kernel_rfl)).2
      obtain ⟨k0, k1, k2, k3, k4, k5, k6⟩ := (pb hB).cells
      have HX := Lib.hid hX
      have HC := Lib.hid hcl
      have HB := Lib.hid hB
      have HD := Lib.hid hD
      clear hX hcl hB hD hR hp
      refine wpOp_step rfl (fun K hK => ?_)
      simp only [putAll, Act.put, List.setIfInBounds_toArray, List.set_cons_succ, List.set_cons_zero]
      go_simp
      exact hK _ _ ⟨.string p.co, (by show _ = Act.put _ (some 14) _; simp only [putAll, Act.put, List.setIfInBounds_toArray, List.set_cons_succ, List.set_cons_zero, *]; all_goals rfl), rfl, Below.refl _ _, HX.out⟩
    refine AllF.step (m := 16) (j := 10) rfl ?_ ?_
    · intro D f w1 hD hB hR hp hcl hX
      have HX := Lib.hid hX
      have HC := Lib.hid hcl
      have HB := Lib.hid hB
      have HD := Lib.hid hD
      clear hX hcl hB hD hR hp
      refine wpOp_step rfl (fun K hK => ?_)
      simp only [putAll, Act.put, List.setIfInBounds_toArray, List.set_cons_succ, List.set_cons_zero]
      go_simp
      exact hK _ _ ⟨.pointer (some ⟨g, 1, none⟩), (by show _ = Act.put _ (some 15) _; simp only [putAll, Act.put, List.setIfInBounds_toArray, List.set_cons_succ, List.set_cons_zero, *]; all_goals rfl), rfl, Below.refl _ _, HX.out⟩
    refine AllF.step (m := 15) (j := 11) rfl ?_ ?_
    · intro D f w1 hD hB hR hp hcl hX
      have e9 : f 15 = .pointer (some ⟨g, 1, none⟩) := (hpAt hp 9 (by kernel_rfl)).2
      obtain ⟨k0, k1, k2, k3, k4, k5, k6⟩ := (pb hB).cells
      have HX := Lib.hid hX
      have HC := Lib.hid hcl
      have HB := Lib.hid hB
      have HD := Lib.hid hD
      clear hX hcl hB hD hR hp
      refine wpOp_step rfl (fun K hK => ?_)
      simp only [putAll, Act.put, List.setIfInBounds_toArray, List.set_cons_succ, List.set_cons_zero]
      go_simp
      exact hK _ _ ⟨.string p.co, (by show _ = Act.put _ (some 16) _; simp only [putAll, Act.put, List.setIfInBounds_toArray, List.set_cons_succ, List.set_cons_zero, *]; all_goals rfl), rfl, Below.refl _ _, HX.out⟩
    refine AllF.step (m := 14) (j := 12) rfl ?_ ?_
    · intro D f w1 hD hB hR hp hcl hX
      have e10 : f 16 = .string p.co := (hpAt hp 10 (by kernel_rfl)).2
      have HX := Lib.hid hX
      have HC := Lib.hid hcl
      have HB := Lib.hid hB
      have HD := Lib.hid hD
      clear hX hcl hB hD hR hp
      refine wpOp_step rfl (fun K hK => ?_)
      simp only [putAll, Act.put, List.setIfInBounds_toArray, List.set_cons_succ, List.set_cons_zero]
      go_simp
      exact hK _ _ ⟨.int .i64 (p.co.size : Int), (by show _ = Act.put _ (some 17) _; simp only [putAll, Act.put, List.setIfInBounds_toArray, List.set_cons_succ, List.set_cons_zero, *]; all_goals rfl), rfl, Below.refl _ _, HX.out⟩
    refine AllF.step (m := 13) (j := 13) rfl ?_ ?_
    · intro D f w1 hD hB hR hp hcl hX
      have e11 : f 17 = .int .i64 (p.co.size : Int) := (hpAt hp 11 (by kernel_rfl)).2
      have hm := HM1.out.1
      have HX := Lib.hid hX
      have HC := Lib.hid hcl
      have HB := Lib.hid hB
      have HD := Lib.hid hD
      clear hX hcl hB hD hR hp
      refine wpOp_step rfl (fun K hK => ?_)
      simp only [putAll, Act.put, List.setIfInBounds_toArray, List.set_cons_succ, List.set_cons_zero]
      go_simp
      exact hK _ _ ⟨.int .i64 (m1 : Int), (by show _ = Act.put _ (some 18) _; simp only [putAll, Act.put, List.setIfInBounds_toArray, List.set_cons_succ, List.set_cons_zero, *]; all_goals rfl), rfl, Below.refl _ _, HX.out⟩
    refine AllF.step (m := 12) (j := 14) rfl ?_ ?_
    · intro D f w1 hD hB hR hp hcl hX
      have e8 : f 14 = .string p.co := (hpAt hp 8 (by kernel_rfl)).2
      have e12 : f 18 = .int .i64 (m1 : Int) := (hpAt hp 12 (by kernel_rfl)).2
      have hm := HM1.out.2
      have hmI : (m1 : Int) ≤ (p.co.size : Int) := by omega
      have HX := Lib.hid hX
      have HC := Lib.hid hcl
      have HB := Lib.hid hB
      have HD := Lib.hid hD
      clear hX hcl hB hD hR hp
      refine wpOp_step rfl (fun K hK => ?_)
      simp only [putAll, Act.put, List.setIfInBounds_toArray, List.set_cons_succ, List.set_cons_zero]
      go_simp
      exact hK _ _ ⟨.string (p.co.extract 0 m1), (by show _ = Act.put _ (some 19) _; simp only [putAll, Act.put, List.setIfInBounds_toArray, List.set_cons_succ, List.set_cons_zero, *]; all_goals rfl), rfl, Below.refl _ _, HX.out⟩
    refine AllF.step (m := 11) (j := 15) rfl ?_ ?_
    · intro D f w1 hD hB hR hp hcl hX
      have HX := Lib.hid hX
      have HC := Lib.hid hcl
      have HB := Lib.hid hB
      have HD := Lib.hid hD
      clear hX hcl hB hD hR hp
      refine wpOp_step rfl (fun K hK => ?_)
      simp only [putAll, Act.put, List.setIfInBounds_toArray, List.set_cons_succ, List.set_cons_zero]
      go_simp
      exact hK _ _ ⟨.pointer (some ⟨g, 2, none⟩), (by show _ = Act.put _ (some 20) _; simp only [putAll, Act.put, List.setIfInBounds_toArray, List.set_cons_succ, List.set_cons_zero, *]; all_goals rfl), rfl, Below.refl _ _, HX.out⟩
    refine AllF.step (m := 10) (j := 16) rfl ?_ ?_
    · intro D f w1 hD hB hR hp hcl hX
      have e14 : f 20 = .pointer (some ⟨g, 2, none⟩) := (hpAt hp 14 (by kernel_rfl)).2
      obtain ⟨k0, k1, k2, k3, k4, k5, k6⟩ := (pb hB).cells
      have HX := Lib.hid hX
      have HC := Lib.hid hcl
      have HB := Lib.hid hB
      have HD := Lib.hid hD
      clear hX hcl hB hD hR hp
      refine wpOp_step rfl (fun K hK => ?_)
      simp only [putAll, Act.put, List.setIfInBounds_toArray, List.set_cons_succ, List.set_cons_zero]
      go_simp
      exact hK _ _ ⟨.string p.br, (by show _ = Act.put _ (some 21) _; simp only [putAll, Act.put, List.setIfInBounds_toArray, List.set_cons_succ, List.set_cons_zero, *]; all_goals rfl), rfl, Below.refl _ _, HX.out⟩
    refine AllF.step (m := 9) (j := 17) rfl ?_ ?_
    · intro D f w1 hD hB hR hp hcl hX
      have HX := Lib.hid hX
      have HC := Lib.hid hcl
      have HB := Lib.hid hB
      have HD := Lib.hid hD
      clear hX hcl hB hD hR hp
      refine wpOp_step rfl (fun K hK => ?_)
      simp only [putAll, Act.put, List.setIfInBounds_toArray, List.set_cons_succ, List.set_cons_zero]
      go_simp
      exact hK _ _ ⟨.pointer (some ⟨g, 2, none⟩), (by show _ = Act.put _ (some 22) _; simp only [putAll, Act.put, List.setIfInBounds_toArray, List.set_cons_succ, List.set_cons_zero, *]; all_goals rfl), rfl, Below.refl _ _, HX.out⟩
    refine AllF.step (m := 8) (j := 18) rfl ?_ ?_
    · intro D f w1 hD hB hR hp hcl hX
      have e16 : f 22 = .pointer (some ⟨g, 2, none⟩) := (hpAt hp 16 (by kernel_rfl)).2
      obtain ⟨k0, k1, k2, k3, k4, k5, k6⟩ := (pb hB).cells
      have HX := Lib.hid hX
      have HC := Lib.hid hcl
      have HB := Lib.hid hB
      have HD := Lib.hid hD
      clear hX hcl hB hD hR hp
      refine wpOp_step rfl (fun K hK => ?_)
      simp only [putAll, Act.put, List.setIfInBounds_toArray, List.set_cons_succ, List.set_cons_zero]
      go_simp
      exact hK _ _ ⟨.string p.br, (by show _ = Act.put _ (some 23) _; simp only [putAll, Act.put, List.setIfInBounds_toArray, List.set_cons_succ, List.set_cons_zero, *]; all_goals rfl), rfl, Below.refl _ _, HX.out⟩
    refine AllF.step (m := 7) (j := 19) rfl ?_ ?_
    · intro D f w1 hD hB hR hp hcl hX
      have e17 : f 23 = .string p.br := (hpAt hp 17 (by kernel_rfl)).2
      have HX := Lib.hid hX
      have HC := Lib.hid hcl
      have HB := Lib.hid hB
      have HD := Lib.hid hD
      clear hX hcl hB hD hR hp
      refine wpOp_step rfl (fun K hK => ?_)
      simp only [putAll, Act.put, List.setIfInBounds_toArray, List.set_cons_succ, List.set_cons_zero]
      go_simp
      exact hK _ _ ⟨.int .i64 (p.br.size : Int), (by show _ = Act.put _ (some 24) _; simp only [putAll, Act.put, List.setIfInBounds_toArray, List.set_cons_succ, List.set_cons_zero, *]; all_goals rfl), rfl, Below.refl _ _, HX.out⟩
    refine AllF.step (m := 6) (j := 20) rfl ?_ ?_
    · intro D f w1 hD hB hR hp hcl hX
      have e18 : f 24 = .int .i64 (p.br.size : Int) := (hpAt hp 18 (by kernel_rfl)).2
      have hm := HM2.out.1
      have HX := Lib.hid hX
      have HC := Lib.hid hcl
      have HB := Lib.hid hB
      have HD := Lib.hid hD
      clear hX hcl hB hD hR hp
      refine wpOp_step rfl (fun K hK => ?_)
      simp only [putAll, Act.put, List.setIfInBounds_toArray, List.set_cons_succ, List.set_cons_zero]
      go_simp
      exact hK _ _ ⟨.int .i64 (m2 : Int), (by show _ = Act.put _ (some 25) _; simp only [putAll, Act.put, List.setIfInBounds_toArray, List.set_cons_succ, List.set_cons_zero, *]; all_goals rfl), rfl, Below.refl _ _, HX.out⟩
    refine AllF.step (m := 5) (j := 21) rfl ?_ ?_
    · intro D f w1 hD hB hR hp hcl hX
      have e15 : f 21 = .string p.br := (hpAt hp 15 (by kernel_rfl)).2
      have e19 : f 25 = .int .i64 (m2 : Int) := (hpAt hp 19 (by kernel_rfl)).2
      have hm := HM2.out.2
      have hmI : (m2 : Int) ≤ (p.br.size : Int) := by omega
      have HX := Lib.hid hX
      have HC := Lib.hid hcl
      have HB := Lib.hid hB
      have HD := Lib.hid hD
      clear hX hcl hB hD hR hp
      refine wpOp_step rfl (fun K hK => ?_)
      simp only [putAll, Act.put, List.setIfInBounds_toArray, List.set_cons_succ, List.set_cons_zero]
      go_simp
      exact hK _ _ ⟨.string (p.br.extract 0 m2), (by show _ = Act.put _ (some 26) _; simp only [putAll, Act.put, List.setIfInBounds_toArray, List.set_cons_succ, List.set_cons_zero, *]; all_goals rfl), rfl, Below.refl _ _, HX.out⟩
    refine AllF.step (m := 4) (j := 22) rfl ?_ ?_
    · intro D f w1 hD hB hR hp hcl hX
      have HX := Lib.hid hX
      have HC := Lib.hid hcl
      have HB := Lib.hid hB
      have HD := Lib.hid hD
      clear hX hcl hB hD hR hp
      refine wpOp_step rfl (fun K hK => ?_)
      simp only [putAll, Act.put, List.setIfInBounds_toArray, List.set_cons_succ, List.set_cons_zero]
      go_simp
      exact hK _ _ ⟨.pointer (some ⟨g, 3, none⟩), (by show _ = Act.put _ (some 27) _; simp only [putAll, Act.put, List.setIfInBounds_toArray, List.set_cons_succ, List.set_cons_zero, *]; all_goals rfl), rfl, Below.refl _ _, HX.out⟩
    refine AllF.step (m := 3) (j := 23) rfl ?_ ?_
    · intro D f w1 hD hB hR hp hcl hX
      have e21 : f 27 = .pointer (some ⟨g, 3, none⟩) := (hpAt hp 21 (by kernel_rfl)).2
      obtain ⟨k0, k1, k2, k3, k4, k5, k6⟩ := (pb hB).cells
      have HX := Lib.hid hX
      have HC := Lib.hid hcl
      have HB := Lib.hid hB
      have HD := Lib.hid hD
      clear hX hcl hB hD hR hp
      refine wpOp_step rfl (fun K hK => ?_)
      simp only [putAll, Act.put, List.setIfInBounds_toArray, List.set_cons_succ, List.set_cons_zero]
      go_simp
      exact hK _ _ ⟨.agg #[.int .i64 p.d, .int .i64 p.c, .int .i64 p.a], (by show _ = Act.put _ (some 28) _; simp only [putAll, Act.put, List.setIfInBounds_toArray, List.set_cons_succ, List.set_cons_zero, *]; all_goals rfl), rfl, Below.refl _ _, HX.out⟩
    refine AllF.step (m := 2) (j := 24) rfl ?_ ?_
    · intro D f w1 hD hB hR hp hcl hX
      have e6 : f 12 = .string (p.id.extract 0 m0) := (hpAt hp 6 (by kernel_rfl)).2
      have e13 : f 19 = .string (p.co.extract 0 m1) := (hpAt hp 13 (by kernel_rfl)).2
      have e20 : f 26 = .string (p.br.extract 0 m2) := (hpAt hp 20 (by kernel_rfl)).2
      have e22 : f 28 = .agg #[.int .i64 p.d, .int .i64 p.c, .int .i64 p.a] := (hpAt hp 22 (by kernel_rfl)).2
      have HX := Lib.hid hX
      have HC := Lib.hid hcl
      have HB := Lib.hid hB
      have HD := Lib.hid hD
      clear hX hcl hB hD hR hp
      refine wpOp_step rfl (fun K hK => ?_)
      simp only [putAll, Act.put, List.setIfInBounds_toArray, List.set_cons_succ, List.set_cons_zero]
      go_simp
      exact hK _ _ ⟨.agg #[.string (p.id.extract 0 m0), .string (p.co.extract 0 m1), .string (p.br.extract 0 m2), .int .i64 p.d, .int .i64 p.c, .int .i64 p.a, .slice none 0 0], (by show _ = Act.put _ (some 29) _; simp only [putAll, Act.put, List.setIfInBounds_toArray, List.set_cons_succ, List.set_cons_zero, *]; all_goals rfl), rfl, Below.refl _ _, HX.out⟩
    refine AllF.step (m := 1) (j := 25) rfl ?_ ?_
    · intro D f w1 hD hB hR hp hcl hX
      have hlt := hsz hB
      have HX := Lib.hid hX
      have HC := Lib.hid hcl
      have HB := Lib.hid hB
      have HD := Lib.hid hD
      clear hX hcl hB hD hR hp
      refine wpOp_step rfl (fun K hK => ?_)
      simp only [putAll, Act.put, List.setIfInBounds_toArray, List.set_cons_succ, List.set_cons_zero]
      go_simp
      exact hK _ _ ⟨.pointer (some ⟨w1.heap.size, 0, none⟩), (by show _ = Act.put _ (some 3) _; simp only [putAll, Act.put, List.setIfInBounds_toArray, List.set_cons_succ, List.set_cons_zero, *]; all_goals rfl), trivial, below_ge hlt, ⟨fun _ _ => ⟨w1.heap.size, rfl, hlt, PB.zero w1⟩, fun h => absurd h (noOf (D := D) (HC.out 25) (by kernel_rfl) HD.out)⟩⟩
    refine AllF.step (m := 0) (j := 26) rfl ?_ ?_
    · intro D f w1 hD hB hR hp hcl hX
      have e23 : f 29 = .agg #[.string (p.id.extract 0 m0), .string (p.co.extract 0 m1), .string (p.br.extract 0 m2), .int .i64 p.d, .int .i64 p.c, .int .i64 p.a, .slice none 0 0] := (hpAt hp 23 (by kernel_rfl)).2
      have d24 : D 24 = true := (hpAt hp 24 (by kernel_rfl)).1
      obtain ⟨gb, e24, hgN, hpb⟩ := hX.1 d24 hD
      obtain ⟨f0, f1, f2, f3, f4, f5, f6⟩ := hpb.fz
      obtain ⟨k0, k1, k2, k3, k4, k5, k6⟩ := hpb.cells
      have hnew := set7_heap w1 gb ⟨p.id.extract 0 m0, p.co.extract 0 m1, p.br.extract 0 m2, p.d, p.c, p.a⟩ (.slice none 0 0) hpb
      have hEE : Below N w1 (set7 w1 gb ⟨p.id.extract 0 m0, p.co.extract 0 m1, p.br.extract 0 m2, p.d, p.c, p.a⟩ (.slice none 0 0)) := set7_below (Below.refl N w1) hgN hpb.lt _ _
      have HX := Lib.hid hX
      have HC := Lib.hid hcl
      have HB := Lib.hid hB
      have HD := Lib.hid hD
      clear hX hcl hB hD hR hp
      refine wpOp_step rfl (fun K hK => ?_)
      simp only [putAll, Act.put, List.setIfInBounds_toArray, List.set_cons_succ, List.set_cons_zero]
      go_simp
      exact hK _ _ ⟨undef, (by show _ = Act.put _ (none) _; simp only [putAll, Act.put, List.setIfInBounds_toArray, List.set_cons_succ, List.set_cons_zero, *]; all_goals rfl), trivial, hEE, ⟨fun _ h => absurd (show true = false from h) (by decide), fun _ => ⟨gb, e24, hgN, hnew⟩⟩⟩
    exact trivial
  · intro D f w1 hD hB hR hX
    obtain ⟨gb, e3, hgb, hpb⟩ := hX.2 (hD 25 (by decide))
    obtain ⟨rp, hrp⟩ : ∃ rp : Pd, rp = ⟨p.id.extract 0 m0, p.co.extract 0 m1, p.br.extract 0 m2, p.d, p.c, p.a⟩ := ⟨_, rfl⟩
    rw [← hrp] at hpb
    have HRP : Hid (rp.co.size ≤ 100 ∧ rp.br.size ≤ 100 ∧ rp.id.size ≤ 100 ∧ QB rp.d rp.c rp.a) := by
      have h0 := ext_sz p.id m0
      have h1 := ext_sz p.co m1
      have h2 := ext_sz p.br m2
      have := HMS.out
      rw [hrp]
      exact ⟨by show (p.co.extract 0 m1).size ≤ 100; omega, by show (p.br.extract 0 m2).size ≤ 100; omega, by show (p.id.extract 0 m0).size ≤ 100; omega, HQB.out⟩
    have HPB1 := Lib.hid hpb
    have HB1 : Hid (Below N W2 w1) := hB
    have PB1 := (pb hB)
    have HGB := Lib.hid hgb
    have k6 := PB1.cells.2.2.2.2.2.2
    have qle : q ≤ n := by have := HQ.out; omega
    have qcap : q ≤ cap := by omega
    have qcapI : (q : Int) ≤ (cap : Int) := by omega
    clear hX hR hpb hB PB1 pb hsz hrp hD hgb HMS HM0 HM1 HM2
    simp only [putAll, Act.put, List.setIfInBounds_toArray, List.set_cons_succ, List.set_cons_zero, e3]
    clear e3
    obtain ⟨M, hM⟩ : ∃ M, M = w1.heap.size := ⟨_, rfl⟩
    have HM := Lib.hid hM
    have hgM : gb < M := by rw [hM]; exact HPB1.out.lt
    have HGM := Lib.hid hgM
    have HNM : Hid (N ≤ M) := by have := HGB.out; unfold Hid; omega
    have HGN := Lib.hid HGB.out
    clear hM hgM
    have FIN : Hid (∀ (v : Value) (w9 : World), w9.ownsRow M 52 2 v q (atv ((rawl9 l).take q)) → Below N W2 w9 → ∃ a c, v = .slice a q c ∧ SmpN w (.returned (.agg #[.string rp.id, .string rp.co, .string rp.br, .int .i64 rp.d, .int .i64 rp.c, .int .i64 rp.a, .slice a q c])) (set7 w9 (g + 1) rp (.slice a q c)) ∧ Below w.heap.size w (set7 w9 (g + 1) rp (.slice a q c))) := by
      intro v w9 ho hb
      have hql : (rawl9 l).length = q := by rw [rawl9_len]; have := HQ.out; have := HNL.out; omega
      rw [List.take_of_length_le (by omega)] at ho
      have hN2 := HNM.out
      have hgN2 := HGW.out
      have ho9 := fun (a : Option Addr) (c : Nat) (u : Value) => ho.kept (set7_gb w9 (g + 1) rp u) (row_ne ho (by omega))
      obtain ⟨a, c, e⟩ := of_row_n ho
      subst e
      obtain ⟨ao', cp', e', r', ob', _⟩ := RdA.of_row (ho9 a c (.slice a q c))
      injection e' with e1 e2' e3
      subst e1 e3
      have hQ9 : PB w9 (g + 1) Pd.zero (.slice none 0 0) := HQ2.out.below (by rw [HS2.out]; exact hb)
      refine ⟨_, _, rfl, ⟨rp, _, rawl9 l, _, by rw [hql], r', by have := HQ.out; omega, ⟨HRP.out.1, HRP.out.2.1, rawl9_sz l, HRP.out.2.2.1, HRP.out.2.2.2⟩, fun h0 b o e => by have := ob' h0 b o e; omega⟩, ?_⟩
      exact set7_below (HB2.out.trans (hb.mono (by omega))) (by omega) hQ9.lt _ _
    clear HRP
    by_cases hao : ao = none
    · subst hao
      obtain ⟨hc0, hn0⟩ := HNO.out rfl
      subst hc0 hn0
      have hq0 : q = 0 := by omega
      subst hq0
      clear qle qcap qcapI hcap hcap2
      have hmn := HQ.out.2
      go_wp2_with fail
      clear hmn k6
      go_loopw [38] (fun s38 wr => ∃ (i : Nat) (v : Value), i ≤ 0 ∧ s38 = .int .i64 (i : Int) ∧ Hid (PB wr gb rp v) ∧ Hid (wr.ownsRow M 52 2 v i (atv ((rawl9 l).take i))) ∧ Hid (Below N W2 wr) ∧ Hid (M ≤ wr.heap.size)) (fun s38 _ => 0 - (intOf s38).toNat)
      case atStart => exact ⟨0, _, by omega, rfl, HPB1, World.ownsRow_nil _ _ _ _, HB1, by rw [HM.out]; exact Nat.le_refl _⟩
      case round =>
        obtain ⟨i, v, hiq, rfl, hbx, hown, hbl, hwM⟩ := hrel
        by_cases hlt : i < 0
        · omega
        · obtain rfl : i = 0 := by omega
          have hlt2 : ¬ ((0 : Nat) : Int) < ((0 : Nat) : Int) := by omega
          obtain ⟨a9, c9, rfl, S9, B9⟩ := FIN.out v wr hown.out hbl.out
          have HS9 := Lib.hid S9
          have HB9 := Lib.hid B9
          have hQ9 : PB wr (g + 1) Pd.zero (.slice none 0 0) := HQ2.out.below (by rw [HS2.out]; exact hbl.out)
          obtain ⟨p0, p1, p2, p3, p4, p5, p6⟩ := hbx.out.cells
          obtain ⟨r0, r1, r2, r3, r4, r5, r6⟩ := hQ9.cells
          obtain ⟨f0, f1, f2, f3, f4, f5, f6⟩ := hQ9.fz
          obtain ⟨j0, j1, j2, j3, j4, j5, j6⟩ := (set7_heap wr (g + 1) rp (.slice a9 0 c9) hQ9).cells
          obtain ⟨W9, hW9⟩ : ∃ W, W = set7 wr (g + 1) rp (.slice a9 0 c9) := ⟨_, rfl⟩
          rw [← hW9] at j0 j1 j2 j3 j4 j5 j6 HS9 HB9
          clear S9 B9 hQ9
          go_wp2_with fail
          unfold set7 at hW9
          rw [← hW9]
          refine bodyPost_ret (v := .agg #[.string rp.id, .string rp.co, .string rp.br, .int .i64 rp.d, .int .i64 rp.c, .int .i64 rp.a, .slice a9 0 c9]) (by simp [results, Tryd.results7, go_sem, j0, j1, j2, j3, j4, j5, j6]) rfl ?_
          exact ⟨HS9.out, HB9.out⟩
    · obtain ⟨x0, rfl⟩ : ∃ x, ao = some x := by
        cases ao with
        | none => exact absurd rfl hao
        | some x => exact ⟨x, rfl⟩
      clear hao
      have hmn := HQ.out.2
      go_wp2_with fail
      clear hmn k6
      go_loopw [38] (fun s38 wr => ∃ (i : Nat) (v : Value), i ≤ q ∧ s38 = .int .i64 (i : Int) ∧ Hid (PB wr gb rp v) ∧ Hid (wr.ownsRow M 52 2 v i (atv ((rawl9 l).take i))) ∧ Hid (Below N W2 wr) ∧ Hid (M ≤ wr.heap.size)) (fun s38 _ => q - (intOf s38).toNat)
      case atStart => exact ⟨0, _, by omega, rfl, HPB1, World.ownsRow_nil _ _ _ _, HB1, by rw [HM.out]; exact Nat.le_refl _⟩
      case round =>
        obtain ⟨i, v, hiq, rfl, hbx, hown, hbl, hwM⟩ := hrel
        by_cases hlt : i < q
        · have hlt2 : (i : Int) < (q : Int) := by omega
          have hil : i < l.length := by have := HNL.out; omega
          have hrd : RdA wr (some x0) cap l := HR2.out.below (by rw [HS2.out]; exact hbl.out)
          obtain ⟨b, o, e0, hc⟩ := hrd.at hil
          cases e0
          obtain ⟨s1, hs1⟩ : ∃ s, s = (l.getD i e2).1 := ⟨_, rfl⟩
          obtain ⟨s2, hs2⟩ : ∃ s, s = (l.getD i e2).2 := ⟨_, rfl⟩
          obtain ⟨c0, c1⟩ := hc i hil
          rw [← hs1] at c0
          rw [← hs2] at c1
          have hmem : l.getD i e2 ∈ l := by simp [List.getD, hil]
          obtain ⟨z1, z2⟩ := HSL.out _ hmem
          rw [← hs1] at z1
          rw [← hs2] at z2
          obtain ⟨n1, hn1⟩ : ∃ m : Nat, min (s1.size : Int) 30 = (m : Int) := ⟨(min (s1.size : Int) 30).toNat, by omega⟩
          obtain ⟨n2, hn2⟩ : ∃ m : Nat, min (s2.size : Int) 30 = (m : Int) := ⟨(min (s2.size : Int) 30).toNat, by omega⟩
          have HN1 : Hid (min (s1.size : Int) 30 = (n1 : Int) ∧ n1 ≤ s1.size) := ⟨hn1, by omega⟩
          have HN2 : Hid (min (s2.size : Int) 30 = (n2 : Int) ∧ n2 ≤ s2.size) := ⟨hn2, by omega⟩
          have HTK : Hid ((rawl9 l).take (i + 1) = (rawl9 l).take i ++ [(s1.extract 0 n1, s2.extract 0 n2)]) := by
            have h14 : i < 14 := by have := HQ.out; omega
            unfold Hid
            rw [rawl9_next hil h14]
            unfold rawA
            rw [← hs1, ← hs2, show min s1.size 30 = n1 by omega, show min s2.size 30 = n2 by omega]
          have hrows : ∀ k, v.ownBlock = some k → M ≤ k := fun k e => (hown.out.lt k e).1
          have HGV : Hid (some gb ≠ v.ownBlock) := fun e => by have := hrows gb e.symm; have := HGM.out; omega
          obtain ⟨g5, hg5⟩ : ∃ g, g = wr.heap.size := ⟨_, rfl⟩
          have HG5 : Hid (some g5 ≠ v.ownBlock) := fun e => by have := (hown.out.lt g5 e.symm).2; omega
          have HGG : Hid (some g5 ≠ some gb) := fun e => by have := Option.some.inj e; have := hbx.out.lt; omega
          obtain ⟨W5, hW5⟩ : ∃ W, W = wr.alloc (.cells #[.string s1, .string s2] 52) := ⟨_, rfl⟩
          have hwrM : M ≤ wr.heap.size := hwM.out
          have h14 : i < 14 := by have := HQ.out; omega
          have HP5 : Hid (PB W5 gb rp v) := by rw [hW5]; exact hbx.out.below (below_new _ _)
          have HX5 : Hid (Bxa W5 g5 s1 s2) := by rw [hW5, hg5]; exact Bxa.new _ _ _
          have HO5 : Hid (W5.ownsRow M 52 2 v i (atv ((rawl9 l).take i))) := by rw [hW5]; exact own_below hown.out (below_new _ _)
          have HB5 : Hid (Below N W2 W5) := by rw [hW5]; exact hbl.out.trans (below_ge (by have := HNM.out; omega))
          have HSM : Hid (M ≤ W5.heap.size) := by rw [hW5]; show M ≤ (wr.alloc _).heap.size; rw [World.size_alloc]; omega
          clear hs1 hs2 hmem z1 z2 hn1 hn2 hrows hbx hown hbl hwrM hrd hc
          go_upto_region 5 with fail
          rw [← hW5]
          try rw [← hg5]
          clear hW5 hg5 c0 c1
          have hsz : ∀ {w1 : World}, Below N W5 w1 → N ≤ w1.heap.size := fun h => by have := h.size; have := HSM.out; have := HNM.out; omega
          have hszM : ∀ {w1 : World}, Below N W5 w1 → M ≤ w1.heap.size := fun h => by have := h.size; have := HSM.out; omega
          refine wp_region_any (by kernel_rfl) ?_
          refine region_ssa [42, 43, 44, 45, 46, 47, 48, 49, 50, 51, 52, 53, 54, 55, 56, 57, 58, 59, 60, 61] (Below N W5) (Below N) (RP (RwR5 v gb g5 s1 s2 n1 n2)) (RwX5 l i v rp gb g5 M s1 s2 n1 n2) (fun f => rfl) (by kernel_rfl) (by kernel_rfl) ?_ ?_ ?_ ?_ (AllF.below (n := 21) ?_) ?_
          · exact (Below.refl _ _).drew
          · intro f; exact ⟨HX5.out, fun _ => ⟨HP5.out, HO5.out⟩, fun h => (by cases h), fun h => (by cases h)⟩
          · intro i v w1 w2 _ h _; exact h
          · intro w1 w2 hB hE; exact hB.trans hE
          · refine AllF.step (m := 20) (j := 1) rfl ?_ ?_
            · intro D f w1 hD hB hR hp hcl hX
              have HX := Lib.hid hX
              have HC := Lib.hid hcl
              have HB := Lib.hid hB
              have HD := Lib.hid hD
              clear hX hcl hB hD hR hp
              refine wpOp_step rfl (fun K hK => ?_)
              simp only [putAll, Act.put, List.setIfInBounds_toArray, List.set_cons_succ, List.set_cons_zero]
              go_simp
              exact hK _ _ ⟨.pointer (some ⟨gb, 6, none⟩), (by show _ = Act.put _ (some 42) _; simp only [putAll, Act.put, List.setIfInBounds_toArray, List.set_cons_succ, List.set_cons_zero, *]; all_goals rfl), rfl, Below.refl _ _, HX.out⟩
            refine AllF.step (m := 19) (j := 2) rfl ?_ ?_
            · intro D f w1 hD hB hR hp hcl hX
              have e0 : f 42 = .pointer (some ⟨gb, 6, none⟩) := (hpAt hp 0 (by kernel_rfl)).2
              have h18 : D 18 = false := noF (hcl 18) (by kernel_rfl) hD
              have k6 := (hX.2.1 h18).1.cells.2.2.2.2.2.2
              have HX := Lib.hid hX
              have HC := Lib.hid hcl
              have HB := Lib.hid hB
              have HD := Lib.hid hD
              clear hX hcl hB hD hR hp
              refine wpOp_step rfl (fun K hK => ?_)
              simp only [putAll, Act.put, List.setIfInBounds_toArray, List.set_cons_succ, List.set_cons_zero]
              go_simp
              exact hK _ _ ⟨v, (by show _ = Act.put _ (some 43) _; simp only [putAll, Act.put, List.setIfInBounds_toArray, List.set_cons_succ, List.set_cons_zero, *]; all_goals rfl), rfl, Below.refl _ _, HX.out⟩
            refine AllF.step (m := 18) (j := 3) rfl ?_ ?_
            · intro D f w1 hD hB hR hp hcl hX
              have HX := Lib.hid hX
              have HC := Lib.hid hcl
              have HB := Lib.hid hB
              have HD := Lib.hid hD
              clear hX hcl hB hD hR hp
              refine wpOp_step rfl (fun K hK => ?_)
              simp only [putAll, Act.put, List.setIfInBounds_toArray, List.set_cons_succ, List.set_cons_zero]
              go_simp
              exact hK _ _ ⟨.pointer (some ⟨g5, 0, none⟩), (by show _ = Act.put _ (some 44) _; simp only [putAll, Act.put, List.setIfInBounds_toArray, List.set_cons_succ, List.set_cons_zero, *]; all_goals rfl), rfl, Below.refl _ _, HX.out⟩
            refine AllF.step (m := 17) (j := 4) rfl ?_ ?_
            · intro D f w1 hD hB hR hp hcl hX
              have e2 : f 44 = .pointer (some ⟨g5, 0, none⟩) := (hpAt hp 2 (by kernel_rfl)).2
              obtain ⟨b0, b1⟩ := hX.1
              have HX := Lib.hid hX
              have HC := Lib.hid hcl
              have HB := Lib.hid hB
              have HD := Lib.hid hD
              clear hX hcl hB hD hR hp
              refine wpOp_step rfl (fun K hK => ?_)
              simp only [putAll, Act.put, List.setIfInBounds_toArray, List.set_cons_succ, List.set_cons_zero]
              go_simp
              exact hK _ _ ⟨.string s1, (by show _ = Act.put _ (some 45) _; simp only [putAll, Act.put, List.setIfInBounds_toArray, List.set_cons_succ, List.set_cons_zero, *]; all_goals rfl), rfl, Below.refl _ _, HX.out⟩
            refine AllF.step (m := 16) (j := 5) rfl ?_ ?_
            · intro D f w1 hD hB hR hp hcl hX
              have HX := Lib.hid hX
              have HC := Lib.hid hcl
              have HB := Lib.hid hB
              have HD := Lib.hid hD
              clear hX hcl hB hD hR hp
              refine wpOp_step rfl (fun K hK => ?_)
              simp only [putAll, Act.put, List.setIfInBounds_toArray, List.set_cons_succ, List.set_cons_zero]
              go_simp
              exact hK _ _ ⟨.pointer (some ⟨g5, 0, none⟩), (by show _ = Act.put _ (some 46) _; simp only [putAll, Act.put, List.setIfInBounds_toArray, List.set_cons_succ, List.set_cons_zero, *]; all_goals rfl), rfl, Below.refl _ _, HX.out⟩
            refine AllF.step (m := 15) (j := 6) rfl ?_ ?_
            · intro D f w1 hD hB hR hp hcl hX
              have e4 : f 46 = .pointer (some ⟨g5, 0, none⟩) := (hpAt hp 4 (by kernel_rfl)).2
              obtain ⟨b0, b1⟩ := hX.1
              have HX := Lib.hid hX
              have HC := Lib.hid hcl
              have HB := Lib.hid hB
              have HD := Lib.hid hD
              clear hX hcl hB hD hR hp
              refine wpOp_step rfl (fun K hK => ?_)
              simp only [putAll, Act.put, List.setIfInBounds_toArray, List.set_cons_succ, List.set_cons_zero]
              go_simp
              exact hK _ _ ⟨.string s1, (by show _ = Act.put _ (some 47) _; simp only [putAll, Act.put, List.setIfInBounds_toArray, List.set_cons_succ, List.set_cons_zero, *]; all_goals rfl), rfl, Below.refl _ _, HX.out⟩
            refine AllF.step (m := 14) (j := 7) rfl ?_ ?_
            · intro D f w1 hD hB hR hp hcl hX
              have e5 : f 47 = .string s1 := (hpAt hp 5 (by kernel_rfl)).2
              have HX := Lib.hid hX
              have HC := Lib.hid hcl
              have HB := Lib.hid hB
              have HD := Lib.hid hD
              clear hX hcl hB hD hR hp
              refine wpOp_step rfl (fun K hK => ?_)
              simp only [putAll, Act.put, List.setIfInBounds_toArray, List.set_cons_succ, List.set_cons_zero]
              go_simp
              exact hK _ _ ⟨.int .i64 (s1.size : Int), (by show _ = Act.put _ (some 48) _; simp only [putAll, Act.put, List.setIfInBounds_toArray, List.set_cons_succ, List.set_cons_zero, *]; all_goals rfl), rfl, Below.refl _ _, HX.out⟩
            refine AllF.step (m := 13) (j := 8) rfl ?_ ?_
            · intro D f w1 hD hB hR hp hcl hX
              have e6 : f 48 = .int .i64 (s1.size : Int) := (hpAt hp 6 (by kernel_rfl)).2
              have hm := HN1.out.1
              have HX := Lib.hid hX
              have HC := Lib.hid hcl
              have HB := Lib.hid hB
              have HD := Lib.hid hD
              clear hX hcl hB hD hR hp
              refine wpOp_step rfl (fun K hK => ?_)
              simp only [putAll, Act.put, List.setIfInBounds_toArray, List.set_cons_succ, List.set_cons_zero]
              go_simp
              exact hK _ _ ⟨.int .i64 (n1 : Int), (by show _ = Act.put _ (some 49) _; simp only [putAll, Act.put, List.setIfInBounds_toArray, List.set_cons_succ, List.set_cons_zero, *]; all_goals rfl), rfl, Below.refl _ _, HX.out⟩
            refine AllF.step (m := 12) (j := 9) rfl ?_ ?_
            · intro D f w1 hD hB hR hp hcl hX
              have e3 : f 45 = .string s1 := (hpAt hp 3 (by kernel_rfl)).2
              have e7 : f 49 = .int .i64 (n1 : Int) := (hpAt hp 7 (by kernel_rfl)).2
              have hm := HN1.out.2
              have hmI : (n1 : Int) ≤ (s1.size : Int) := by omega
              have HX := Lib.hid hX
              have HC := Lib.hid hcl
              have HB := Lib.hid hB
              have HD := Lib.hid hD
              clear hX hcl hB hD hR hp
              refine wpOp_step rfl (fun K hK => ?_)
              simp only [putAll, Act.put, List.setIfInBounds_toArray, List.set_cons_succ, List.set_cons_zero]
              go_simp
              exact hK _ _ ⟨.string (s1.extract 0 n1), (by show _ = Act.put _ (some 50) _; simp only [putAll, Act.put, List.setIfInBounds_toArray, List.set_cons_succ, List.set_cons_zero, *]; all_goals rfl), rfl, Below.refl _ _, HX.out⟩
            refine AllF.step (m := 11) (j := 10) rfl ?_ ?_
            · intro D f w1 hD hB hR hp hcl hX
              have HX := Lib.hid hX
              have HC := Lib.hid hcl
              have HB := Lib.hid hB
              have HD := Lib.hid hD
              clear hX hcl hB hD hR hp
              refine wpOp_step rfl (fun K hK => ?_)
              simp only [putAll, Act.put, List.setIfInBounds_toArray, List.set_cons_succ, List.set_cons_zero]
              go_simp
              exact hK _ _ ⟨.pointer (some ⟨g5, 1, none⟩), (by show _ = Act.put _ (some 51) _; simp only [putAll, Act.put, List.setIfInBounds_toArray, List.set_cons_succ, List.set_cons_zero, *]; all_goals rfl), rfl, Below.refl _ _, HX.out⟩
            refine AllF.step (m := 10) (j := 11) rfl ?_ ?_
            · intro D f w1 hD hB hR hp hcl hX
              have e9 : f 51 = .pointer (some ⟨g5, 1, none⟩) := (hpAt hp 9 (by kernel_rfl)).2
              obtain ⟨b0, b1⟩ := hX.1
              have HX := Lib.hid hX
              have HC := Lib.hid hcl
              have HB := Lib.hid hB
              have HD := Lib.hid hD
              clear hX hcl hB hD hR hp
              refine wpOp_step rfl (fun K hK => ?_)
              simp only [putAll, Act.put, List.setIfInBounds_toArray, List.set_cons_succ, List.set_cons_zero]
              go_simp
              exact hK _ _ ⟨.string s2, (by show _ = Act.put _ (some 52) _; simp only [putAll, Act.put, List.setIfInBounds_toArray, List.set_cons_succ, List.set_cons_zero, *]; all_goals rfl), rfl, Below.refl _ _, HX.out⟩
            refine AllF.step (m := 9) (j := 12) rfl ?_ ?_
            · intro D f w1 hD hB hR hp hcl hX
              have HX := Lib.hid hX
              have HC := Lib.hid hcl
              have HB := Lib.hid hB
              have HD := Lib.hid hD
              clear hX hcl hB hD hR hp
              refine wpOp_step rfl (fun K hK => ?_)
              simp only [putAll, Act.put, List.setIfInBounds_toArray, List.set_cons_succ, List.set_cons_zero]
              go_simp
              exact hK _ _ ⟨.pointer (some ⟨g5, 1, none⟩), (by show _ = Act.put _ (some 53) _; simp only [putAll, Act.put, List.setIfInBounds_toArray, List.set_cons_succ, List.set_cons_zero, *]; all_goals rfl), rfl, Below.refl _ _, HX.out⟩
            refine AllF.step (m := 8) (j := 13) rfl ?_ ?_
            · intro D f w1 hD hB hR hp hcl hX
              have e11 : f 53 = .pointer (some ⟨g5, 1, none⟩) := (hpAt hp 11 (by kernel_rfl)).2
              obtain ⟨b0, b1⟩ := hX.1
              have HX := Lib.hid hX
              have HC := Lib.hid hcl
              have HB := Lib.hid hB
              have HD := Lib.hid hD
              clear hX hcl hB hD hR hp
              refine wpOp_step rfl (fun K hK => ?_)
              simp only [putAll, Act.put, List.setIfInBounds_toArray, List.set_cons_succ, List.set_cons_zero]
              go_simp
              exact hK _ _ ⟨.string s2, (by show _ = Act.put _ (some 54) _; simp only [putAll, Act.put, List.setIfInBounds_toArray, List.set_cons_succ, List.set_cons_zero, *]; all_goals rfl), rfl, Below.refl _ _, HX.out⟩
            refine AllF.step (m := 7) (j := 14) rfl ?_ ?_
            · intro D f w1 hD hB hR hp hcl hX
              have e12 : f 54 = .string s2 := (hpAt hp 12 (by kernel_rfl)).2
              have HX := Lib.hid hX
              have HC := Lib.hid hcl
              have HB := Lib.hid hB
              have HD := Lib.hid hD
              clear hX hcl hB hD hR hp
              refine wpOp_step rfl (fun K hK => ?_)
              simp only [putAll, Act.put, List.setIfInBounds_toArray, List.set_cons_succ, List.set_cons_zero]
              go_simp
              exact hK _ _ ⟨.int .i64 (s2.size : Int), (by show _ = Act.put _ (some 55) _; simp only [putAll, Act.put, List.setIfInBounds_toArray, List.set_cons_succ, List.set_cons_zero, *]; all_goals rfl), rfl, Below.refl _ _, HX.out⟩
            refine AllF.step (m := 6) (j := 15) rfl ?_ ?_
            · intro D f w1 hD hB hR hp hcl hX
              have e13 : f 55 = .int .i64 (s2.size : Int) := (hpAt hp 13 (by kernel_rfl)).2
              have hm := HN2.out.1
              have HX := Lib.hid hX
              have HC := Lib.hid hcl
              have HB := Lib.hid hB
              have HD := Lib.hid hD
              clear hX hcl hB hD hR hp
              refine wpOp_step rfl (fun K hK => ?_)
              simp only [putAll, Act.put, List.setIfInBounds_toArray, List.set_cons_succ, List.set_cons_zero]
              go_simp
              exact hK _ _ ⟨.int .i64 (n2 : Int), (by show _ = Act.put _ (some 56) _; simp only [putAll, Act.put, List.setIfInBounds_toArray, List.set_cons_succ, List.set_cons_zero, *]; all_goals rfl), rfl, Below.refl _ _, HX.out⟩
            refine AllF.step (m := 5) (j := 16) rfl ?_ ?_
            · intro D f w1 hD hB hR hp hcl hX
              have e10 : f 52 = .string s2 := (hpAt hp 10 (by kernel_rfl)).2
              have e14 : f 56 = .int .i64 (n2 : Int) := (hpAt hp 14 (by kernel_rfl)).2
              have hm := HN2.out.2
              have hmI : (n2 : Int) ≤ (s2.size : Int) := by omega
              have HX := Lib.hid hX
              have HC := Lib.hid hcl
              have HB := Lib.hid hB
              have HD := Lib.hid hD
              clear hX hcl hB hD hR hp
              refine wpOp_step rfl (fun K hK => ?_)
              simp only [putAll, Act.put, List.setIfInBounds_toArray, List.set_cons_succ, List.set_cons_zero]
              go_simp
              exact hK _ _ ⟨.string (s2.extract 0 n2), (by show _ = Act.put _ (some 57) _; simp only [putAll, Act.put, List.setIfInBounds_toArray, List.set_cons_succ, List.set_cons_zero, *]; all_goals rfl), rfl, Below.refl _ _, HX.out⟩
            refine AllF.step (m := 4) (j := 17) rfl ?_ ?_
            · intro D f w1 hD hB hR hp hcl hX
              have e8 : f 50 = .string (s1.extract 0 n1) := (hpAt hp 8 (by kernel_rfl)).2
              have e15 : f 57 = .string (s2.extract 0 n2) := (hpAt hp 15 (by kernel_rfl)).2
              have HX := Lib.hid hX
              have HC := Lib.hid hcl
              have HB := Lib.hid hB
              have HD := Lib.hid hD
              clear hX hcl hB hD hR hp
              refine wpOp_step rfl (fun K hK => ?_)
              simp only [putAll, Act.put, List.setIfInBounds_toArray, List.set_cons_succ, List.set_cons_zero]
              go_simp
              exact hK _ _ ⟨.agg #[.string (s1.extract 0 n1), .string (s2.extract 0 n2)], (by show _ = Act.put _ (some 58) _; simp only [putAll, Act.put, List.setIfInBounds_toArray, List.set_cons_succ, List.set_cons_zero, *]; all_goals rfl), rfl, Below.refl _ _, HX.out⟩
            refine AllF.step (m := 3) (j := 18) rfl ?_ ?_
            · intro D f w1 hD hB hR hp hcl hX
              have e16 : f 58 = .agg #[.string (s1.extract 0 n1), .string (s2.extract 0 n2)] := (hpAt hp 16 (by kernel_rfl)).2
              have h18 : D 18 = false := noF (hcl 18) (by kernel_rfl) hD
              have hlt := hsz hB
              have HX := Lib.hid hX
              have HC := Lib.hid hcl
              have HB := Lib.hid hB
              have HD := Lib.hid hD
              clear hX hcl hB hD hR hp
              refine wpOp_step rfl (fun K hK => ?_)
              simp only [putAll, Act.put, List.setIfInBounds_toArray, List.set_cons_succ, List.set_cons_zero]
              go_simp
              exact hK _ _ ⟨.slice (some ⟨w1.heap.size, 0, none⟩) 1 1, (by show _ = Act.put _ (some 59) _; simp only [putAll, Act.put, List.setIfInBounds_toArray, List.set_cons_succ, List.set_cons_zero, *]; all_goals rfl), trivial, below_ge hlt, ⟨HX.out.1.below (below_new _ _), fun _ => ⟨(HX.out.2.1 h18).1.below (below_new _ _), own_below (HX.out.2.1 h18).2 (below_new _ _)⟩, fun _ _ => ⟨w1.heap.size, rfl, heap_alloc_new _ _⟩, fun h => absurd h (noOf (D := D) (HC.out 18) (by kernel_rfl) HD.out)⟩⟩
            refine AllF.step (m := 2) (j := 19) rfl ?_ ?_
            · intro D f w1 hD hB hR hp hcl hX
              have e1 : f 43 = v := (hpAt hp 1 (by kernel_rfl)).2
              have d17 : D 17 = true := (hpAt hp 17 (by kernel_rfl)).1
              obtain ⟨P1, O1⟩ := hX.2.1 hD
              have X1 := hX.1
              obtain ⟨gr, e17, hrow⟩ := hX.2.2.1 d17 hD
              have hlt := hszM hB
              have HX := Lib.hid hX
              have HC := Lib.hid hcl
              have HB := Lib.hid hB
              have HD := Lib.hid hD
              clear hX hcl hB hD hR hp
              refine wpOp_step rfl (fun K hK => ?_)
              simp only [putAll, Act.put, List.setIfInBounds_toArray, List.set_cons_succ, List.set_cons_zero]
              rw [if_pos (by simp [Region.wanted])]
              refine wp_append_own w1 (.tmp 43) (.tmp 59) 24 (by rfl) M 52 i0 (.agg #[.string ByteArray.empty, .string ByteArray.empty]) 2 32 Tryd.underlying24 hi hz0 hz1 hz2 rfl (by decide) v i (atv ((rawl9 l).take i)) (by simp [Act.eval, e1]) O1 ⟨gr, 0, none⟩ 1 1 (atv [(s1.extract 0 n1, s2.extract 0 n2)]) (by simp [Act.eval, e17]) rfl (row_two hrow) (atv_one' _) (by unfold maxLen; omega) (by omega) hlt ?_; intro v4 w4 hown4 hgr4 _; obtain ⟨a4, c4, rfl⟩ := of_row_n hown4
              have hO4 : w4.ownsRow M 52 2 (.slice a4 (i + 1) c4) (i + 1) (atv ((rawl9 l).take (i + 1))) := by rw [HTK.out, atv_append]; exact hown4
              have hX4 : Bxa w4 g5 s1 s2 := X1.grown hgr4 HG5.out
              have hP4 : PB w4 gb rp v := P1.grown hgr4 (HGV.out)
              have hE4 : Below N w1 w4 := (Below.refl N w1).grown hgr4 (hsz HB.out) (fun k e => by have := (O1.lt k e).1; have := HNM.out; omega)
              exact hK _ _ ⟨.slice a4 (i + 1) c4, (by show _ = Act.put _ (some 60) _; simp only [putAll, Act.put, List.setIfInBounds_toArray, List.set_cons_succ, List.set_cons_zero, *]; all_goals rfl), trivial, hE4, ⟨hX4, fun h => absurd (show true = false from h) (by decide), fun _ h => absurd (show true = false from h) (by decide), fun _ => ⟨a4, c4, rfl, hO4, fun _ => hP4, fun h => absurd h (noOf (D := D) (HC.out 20) (by kernel_rfl) HD.out)⟩⟩⟩
            refine AllF.step (m := 1) (j := 20) rfl ?_ ?_
            · intro D f w1 hD hB hR hp hcl hX
              have HX := Lib.hid hX
              have HC := Lib.hid hcl
              have HB := Lib.hid hB
              have HD := Lib.hid hD
              clear hX hcl hB hD hR hp
              refine wpOp_step rfl (fun K hK => ?_)
              simp only [putAll, Act.put, List.setIfInBounds_toArray, List.set_cons_succ, List.set_cons_zero]
              go_simp
              exact hK _ _ ⟨.pointer (some ⟨gb, 6, none⟩), (by show _ = Act.put _ (some 61) _; simp only [putAll, Act.put, List.setIfInBounds_toArray, List.set_cons_succ, List.set_cons_zero, *]; all_goals rfl), rfl, Below.refl _ _, ⟨HX.out.1, HX.out.2.1, HX.out.2.2.1, HX.out.2.2.2⟩⟩
            refine AllF.step (m := 0) (j := 21) rfl ?_ ?_
            · intro D f w1 hD hB hR hp hcl hX
              have e19 : f 61 = .pointer (some ⟨gb, 6, none⟩) := (hpAt hp 19 (by kernel_rfl)).2
              have d18 : D 18 = true := (hpAt hp 18 (by kernel_rfl)).1
              obtain ⟨a4, c4, e18, hO4, hP4, _⟩ := hX.2.2.2 d18
              have hX4 : Bxa (w1.setCell ⟨gb, 6, none⟩ (.slice a4 (i + 1) c4)) g5 s1 s2 := hX.1.grown (gb_set w1 gb 6 _) HGG.out
              have hpb := hP4 hD
              obtain ⟨f0, f1, f2, f3, f4, f5, f6⟩ := hpb.fz
              obtain ⟨k0, k1, k2, k3, k4, k5, k6⟩ := hpb.cells
              have hnew := hpb.set6 (.slice a4 (i + 1) c4)
              have hOn := hO4.kept (gb_set w1 gb 6 (.slice a4 (i + 1) c4)) (row_ne hO4 HGM.out)
              clear hO4 hP4
              have HX := Lib.hid hX
              have HC := Lib.hid hcl
              have HB := Lib.hid hB
              have HD := Lib.hid hD
              clear hX hcl hB hD hR hp
              refine wpOp_step rfl (fun K hK => ?_)
              simp only [putAll, Act.put, List.setIfInBounds_toArray, List.set_cons_succ, List.set_cons_zero]
              go_simp
              exact hK _ _ ⟨undef, (by show _ = Act.put _ (none) _; simp only [putAll, Act.put, List.setIfInBounds_toArray, List.set_cons_succ, List.set_cons_zero, *]; all_goals rfl), trivial, (Below.refl N w1).setCell HGN.out _, ⟨hX4, fun h => absurd (d18.symm.trans h) (by decide), fun _ h => absurd (d18.symm.trans h) (by decide), fun _ => ⟨a4, c4, e18, hOn, fun h => absurd (show true = false from h) (by decide), fun _ => hnew⟩⟩⟩
            exact trivial
          · intro D f w6 hD hB hR hX
            obtain ⟨a6, c6, e60, hO6, _, hP6⟩ := hX.2.2.2 (hD 18 (by decide))
            have HP6 := Lib.hid (hP6 (hD 20 (by decide)))
            have HO6 := Lib.hid hO6
            have HB6 : Hid (Below N W2 w6) := HB5.out.trans hB
            have HM6 : Hid (M ≤ w6.heap.size) := hszM hB
            clear hX hR hB hO6 hP6 hD hsz hszM
            simp only [putAll, Act.put, List.setIfInBounds_toArray, List.set_cons_succ, List.set_cons_zero]
            go_wp2_with fail
            go_roundw
            case rel => exact ⟨i + 1, .slice a6 (i + 1) c6, by omega, by go_num, HP6, HO6, HB6, HM6⟩
            case measure => simp [intOf]; omega
        · obtain rfl : i = q := by omega
          have hlt2 : ¬ ((i : Nat) : Int) < ((i : Nat) : Int) := by omega
          obtain ⟨a9, c9, rfl, S9, B9⟩ := FIN.out v wr hown.out hbl.out
          have HS9 := Lib.hid S9
          have HB9 := Lib.hid B9
          have hQ9 : PB wr (g + 1) Pd.zero (.slice none 0 0) := HQ2.out.below (by rw [HS2.out]; exact hbl.out)
          obtain ⟨p0, p1, p2, p3, p4, p5, p6⟩ := hbx.out.cells
          obtain ⟨r0, r1, r2, r3, r4, r5, r6⟩ := hQ9.cells
          obtain ⟨f0, f1, f2, f3, f4, f5, f6⟩ := hQ9.fz
          obtain ⟨j0, j1, j2, j3, j4, j5, j6⟩ := (set7_heap wr (g + 1) rp (.slice a9 i c9) hQ9).cells
          obtain ⟨W9, hW9⟩ : ∃ W, W = set7 wr (g + 1) rp (.slice a9 i c9) := ⟨_, rfl⟩
          rw [← hW9] at j0 j1 j2 j3 j4 j5 j6 HS9 HB9
          clear S9 B9 hQ9
          go_wp2_with fail
          unfold set7 at hW9
          rw [← hW9]
          refine bodyPost_ret (v := .agg #[.string rp.id, .string rp.co, .string rp.br, .int .i64 rp.d, .int .i64 rp.c, .int .i64 rp.a, .slice a9 i c9]) (by simp [results, Tryd.results7, go_sem, j0, j1, j2, j3, j4, j5, j6]) rfl ?_
          exact ⟨HS9.out, HB9.out⟩
theorem raw9_v (p : Pd) (ao : Option Addr) (cap : Nat) (l : List Atr) (w : World) (h : RdA w ao cap l) (hs : SL l) (hqb : QB p.d p.c p.a) :
    Calls Tryd.prog 7 #[.agg #[.string p.id, .string p.co, .string p.br, .int .i64 p.d, .int .i64 p.c, .int .i64 p.a, .slice ao l.length cap]] w fun e w' => Smp w e w' ∧ Below w.heap.size w w' :=
  (raw9_n p ao cap l w h hs hqb).mono fun _ _ ⟨⟨p', a, l', c, h1, h2, h3, h4, _⟩, hb⟩ => ⟨⟨p', a, l', c, h1, h2, h3, h4⟩, hb⟩
end Go.Proofs.YtkedgkfdmdlhoaaDoor.P9
