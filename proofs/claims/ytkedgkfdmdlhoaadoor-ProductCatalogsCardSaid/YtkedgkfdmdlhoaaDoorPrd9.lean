import Derived.Test.YtkedgkfdmdlhoaaDoorPrd3
import Derived.Test.YtkedgkfdmdlhoaaDoorPrd4
/- Layer 9: Same of equal products; Find in a list of one. -/
namespace Go.Proofs.YtkedgkfdmdlhoaaDoor.P9
open Go.RowKit Go.Sort C6

theorem eqs (a : ByteArray) : (a.toList == a.toList) = true := by simp

set_option maxHeartbeats 8000000 in
set_option maxRecDepth 100000 in
theorem Same_v (p : Pd) (ao bo : Option Addr) (ca cb : Nat) (l : List Atr) (w : World) (h : RdA w ao ca l) (k : RdA w bo cb l) :
    Calls Tryd.prog 16 #[.agg #[.string p.id, .string p.co, .string p.br, .int .i64 p.d, .int .i64 p.c, .int .i64 p.a, .slice ao l.length ca], .agg #[.string p.id, .string p.co, .string p.br, .int .i64 p.d, .int .i64 p.c, .int .i64 p.a, .slice bo l.length cb]] w fun e w' => e = .returned (.bool true) ∧ Below w.heap.size w w' := by
  obtain ⟨n, hn⟩ : ∃ n, n = l.length := ⟨_, rfl⟩
  obtain ⟨W1, hW1⟩ : ∃ W, W = w.alloc (.cells #[.string p.id, .string p.co, .string p.br, .int .i64 p.d, .int .i64 p.c, .int .i64 p.a, .slice ao n ca] 26) := ⟨_, rfl⟩
  have P1 : PB W1 w.heap.size p (.slice ao n ca) := by rw [hW1]; exact PB.new _ _ _
  have b1 : Below w.heap.size w W1 := by rw [hW1]; exact below_new _ _
  have s1 : W1.heap.size = w.heap.size + 1 := by rw [hW1]; exact World.size_alloc _ _
  obtain ⟨W2, hW2⟩ : ∃ W, W = W1.alloc (.cells #[.string p.id, .string p.co, .string p.br, .int .i64 p.d, .int .i64 p.c, .int .i64 p.a, .slice bo n cb] 26) := ⟨_, rfl⟩
  have P2 : PB W2 w.heap.size p (.slice ao n ca) := by rw [hW2]; exact P1.below (below_new _ _)
  have Q2 : PB W2 (w.heap.size + 1) p (.slice bo n cb) := by rw [hW2, ← s1]; exact PB.new _ _ _
  have b2 : Below w.heap.size w W2 := by rw [hW2]; exact keep b1 (below_new _ _)
  have HR := Lib.hid (h.below b2)
  have HK := Lib.hid (k.below b2)
  have HP2 := Lib.hid P2
  have HQ2 := Lib.hid Q2
  have HB2 := Lib.hid b2
  have HN := Lib.hid hn
  have hc1 : n ≤ ca ∧ ca ≤ 9223372036854775807 := by have := h.1; have := h.2.1; omega
  have hc2 : n ≤ cb ∧ cb ≤ 9223372036854775807 := by have := k.1; have := k.2.1; omega
  obtain ⟨hc11, hc12⟩ := hc1
  obtain ⟨hc21, hc22⟩ := hc2
  rw [← hn]
  obtain ⟨k0, k1, k2, k3, k4, k5, k6⟩ := P2.cells
  obtain ⟨q0, q1, q2, q3, q4, q5, q6⟩ := Q2.cells
  have e0 := eqs p.id
  have e1 := eqs p.co
  have e2' := eqs p.br
  clear h k hn P1 b1 s1 P2 Q2 b2
  go_enter Tryd.func16, Tryd.ntmps16
  go_wp2_with fail
  rw [← hW1, ← hW2]
  clear k0 k1 k2 k3 k4 k5 k6 q0 q1 q2 q3 q4 q5 q6 e0 e1 e2'
  go_loopw [44, 5] (fun s44 _s5 wr => ∃ i : Nat, i ≤ n ∧ s44 = .int .i64 (i : Int) ∧ Hid (Below W2.heap.size W2 wr)) (fun s44 _ _ => n - (intOf s44).toNat)
  case atStart => exact ⟨0, by omega, rfl, Below.refl _ _⟩
  case round =>
    obtain ⟨i, hin, rfl, hb⟩ := hrel
    by_cases hlt : i < n
    · have hltI : (i : Int) < (n : Int) := by omega
      obtain ⟨b1, o1, rfl, hc1⟩ := (HR.out.below hb.out).at (i := i) (by have := HN.out; omega)
      obtain ⟨b2, o2, rfl, hc2⟩ := (HK.out.below hb.out).at (i := i) (by have := HN.out; omega)
      have y0 := hc1 i (by have := HN.out; omega)
      have y1 := hc2 i (by have := HN.out; omega)
      obtain ⟨⟨x1, x2⟩, hx⟩ : ∃ x, x = l.getD i e2 := ⟨_, rfl⟩
      rw [← hx] at y0 y1
      obtain ⟨y0, y1'⟩ := y0
      obtain ⟨z0, z1⟩ := y1
      have k6 := (HP2.out.below hb.out).cells.2.2.2.2.2.2
      have q6 := (HQ2.out.below hb.out).cells.2.2.2.2.2.2
      have e0 := eqs x1
      have e1 := eqs x2
      have hic1 : i < ca := by omega
      have hic2 : i < cb := by omega
      clear hc1 hc2 hx hW1 hW2
      go_wp2_with fail
      go_quiet (fail)
      all_goals
        go_wp2_with fail
        go_roundw
        case rel => exact ⟨i + 1, by omega, by go_num, drewN_below' hb.out _⟩
        case measure => first | (simp [intOf]; done) | (simp [intOf]; omega)
    · have hni : ¬ (i : Int) < (n : Int) := by omega
      have hbf : Hid (Below w.heap.size w wr) := keep HB2.out hb.out
      clear hW1 hW2
      go_wp2_with fail
      go_ret
      exact ⟨rfl, hbf.out⟩
set_option maxHeartbeats 8000000 in
set_option maxRecDepth 100000 in
theorem Find1_v (p : Pd) (g : Nat) (ao : Option Addr) (ca : Nat) (l : List Atr) (w : World) (hg : PB w g p (.slice ao l.length ca)) (h : RdA w ao ca l) (hl : l.length ≤ 1000) :
    Calls Tryd.prog 14 #[.slice (some ⟨g, 0, none⟩) 1 1, .string p.id] w fun e w' => ∃ a c, e = .returned (.tuple #[.agg #[.string p.id, .string p.co, .string p.br, .int .i64 p.d, .int .i64 p.c, .int .i64 p.a, .slice a l.length c], .bool true]) ∧ w'.ownsRow (w.heap.size + 2) 52 2 (.slice a l.length c) l.length (atv l) ∧ Below w.heap.size w w' := by
  obtain ⟨n, hn⟩ : ∃ n, n = l.length := ⟨_, rfl⟩
  have e0 := eqs p.id
  obtain ⟨W1, hW1⟩ : ∃ W, W = w.alloc (.cells #[.string ⟨#[]⟩, .string ⟨#[]⟩, .string ⟨#[]⟩, .int .i64 0, .int .i64 0, .int .i64 0, .slice none 0 0] 26) := ⟨_, rfl⟩
  have Q1 : PB W1 w.heap.size Pd.zero (.slice none 0 0) := by rw [hW1]; exact PB.zero w
  have b1 : Below w.heap.size w W1 := by rw [hW1]; exact below_new _ _
  have s1 : W1.heap.size = w.heap.size + 1 := by rw [hW1]; exact World.size_alloc _ _
  obtain ⟨k0, k1, k2, k3, k4, k5, k6⟩ := (hg.below b1).cells
  obtain ⟨W2, hW2⟩ : ∃ W, W = W1.alloc (.cells #[.string p.id, .string p.co, .string p.br, .int .i64 p.d, .int .i64 p.c, .int .i64 p.a, .slice ao n ca] 26) := ⟨_, rfl⟩
  have Q2 : PB W2 w.heap.size Pd.zero (.slice none 0 0) := by rw [hW2]; exact Q1.below (below_new _ _)
  have b2 : Below w.heap.size w W2 := by rw [hW2]; exact keep b1 (below_new _ _)
  have s2 : W2.heap.size = w.heap.size + 2 := by rw [hW2, World.size_alloc, s1]
  have CP := copied_v p ao ca l W2 (h.below b2) hl
  rw [← hn] at CP
  have CP2 := Lib.hid CP
  have HQ2 := Lib.hid Q2
  have HB2 := Lib.hid b2
  have HS2 := Lib.hid s2
  rw [← hn] at k6
  rw [← hn]
  clear h hl hg CP Q1 b1 s1 Q2 b2 s2 hn
  go_enter Tryd.func14, Tryd.ntmps14
  go_wp2_with fail
  go_loopw [10] (fun s10 (wr : World) => s10 = .int .i64 0 ∧ wr = W1) (fun _ _ => 0)
  case atStart => exact ⟨rfl, by rw [hW1]⟩
  case round =>
    obtain ⟨rfl, rfl⟩ := hrel
    clear hW1
    go_wp2_with fail
    rw [← hW2]
    refine CP2.out.mono ?_; rintro e w3 ⟨v, rfl, hown, hb⟩
    obtain ⟨a3, c3, rfl⟩ := of_row_n hown
    have Q3 := Lib.hid (HQ2.out.below hb)
    have B3 := Lib.hid (keep HB2.out hb)
    have O3 := Lib.hid hown
    have hgl := Q3.out.lt
    obtain ⟨f0, f1, f2, f3, f4, f5, f6⟩ := Q3.out.fz
    obtain ⟨r0, r1, r2, r3, r4, r5, r6⟩ := Q3.out.cells
    unfold pv
    clear hown hb hW2
    go_wp2_with fail
    have o5 := O3.out.kept (set7_gb w3 w.heap.size p (.slice a3 n c3)) (row_ne O3.out (by rw [HS2.out]; omega))
    have b5 : Below w.heap.size w (set7 w3 w.heap.size p (.slice a3 n c3)) := set7_below B3.out (Nat.le_refl _) hgl _ _
    refine bodyPost_ret (v := .tuple #[.agg #[.string p.id, .string p.co, .string p.br, .int .i64 p.d, .int .i64 p.c, .int .i64 p.a, .slice a3 n c3], .bool true]) (by simp [results, Tryd.results14, go_sem, r0, r1, r2, r3, r4, r5, r6]) rfl ?_
    exact ⟨a3, c3, rfl, own_mono' o5 (by rw [HS2.out]; omega), b5⟩
end Go.Proofs.YtkedgkfdmdlhoaaDoor.P9
