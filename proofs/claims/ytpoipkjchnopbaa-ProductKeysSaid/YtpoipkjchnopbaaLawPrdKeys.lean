import Derived.Test.YtpoipkjchnopbaaPrdV
import Derived.Test.YtpoipkjchnopbaaPrdQ
import Derived.Test.YtpoipkjchnopbaaPrd9
import Derived.Test.YtpoipkjchnopbaaSsaG
/- ProductKeys for all inputs: the key of valid products, without the reference. -/
namespace Go.Proofs.Ytpoipkjchnopbaa.P9
open Go.RowKit Go.Sort C6

theorem bytes_eq' (a b : ByteArray) : (a.toList == b.toList) = true ↔ a = b := by
  simp only [beq_iff_eq, ByteArray.toList_eq]
  exact ⟨fun h => C6.ba_ext h, fun h => by rw [h]⟩
theorem bytes_ne' {a b : ByteArray} (h : a ≠ b) : (a.toList == b.toList) = false := by
  cases he : (a.toList == b.toList)
  · rfl
  · exact absurd ((bytes_eq' a b).1 he) h
def pE : Value → Prop := fun v => ∃ (a : Option Addr) (c : Nat), v = .slice a 0 c
def agp (p : Pd) (v : Value) : Value := .agg #[.string p.id, .string p.co, .string p.br, .int .i64 p.d, .int .i64 p.c, .int .i64 p.a, v]
def KyR (p p' : Pd) (ga gb g9 : Nat) (KA KB : ByteArray) (sb : Bool) : List (Value → Prop) := [pV (.agg #[.string p.id, .string p.co, .string p.br, .int .i64 p.d, .int .i64 p.c, .int .i64 p.a, .slice (some ⟨ga, 0, none⟩) 2 2]), pV (.string KA), pV (.agg #[.string p'.id, .string p'.co, .string p'.br, .int .i64 p'.d, .int .i64 p'.c, .int .i64 p'.a, .slice (some ⟨gb, 0, none⟩) 2 2]), pV (.string KB), pV (.bool sb), pV (.bool sb), pV (.bool true), pV (.bool true), pV (.agg #[.string p'.id, .string p.co, .string p.br, .int .i64 p'.d, .int .i64 p'.c, .int .i64 p'.a, .slice (some ⟨g9, 0, none⟩) 2 2]), pV (.string KA), pV (.agg #[.string p.id, .string p.co, .string p.br, .int .i64 p.d, .int .i64 p.c, .int .i64 p.a, .slice (some ⟨ga, 0, none⟩) 2 2]), pV (.string KA), pV (.bool true), pV (.bool true), pV (.bool true), pV (.agg #[.string p.id, .string p.co, .string p.br, .int .i64 p.d, .int .i64 p.c, .int .i64 p.a, .slice (some ⟨ga, 0, none⟩) 2 2]), pV (.agg #[.string p'.id, .string p.co, .string p.br, .int .i64 p'.d, .int .i64 p'.c, .int .i64 p'.a, .slice (some ⟨g9, 0, none⟩) 2 2]), pE, pV (.int .i64 0), pV (.bool true), pV (.bool true), pV (.bool true), pV (.bool true), pV (.bool true), pV (.bool true)]

set_option maxHeartbeats 16000000 in
set_option maxRecDepth 100000 in
theorem ProductKeys_any (ao : Option Addr) (ts : List Int) (cap : Nat) (w : World) (ht : RdZ w ao cap ts) :
    Calls Try.prog 4 #[.slice ao ts.length cap] w fun e w' => e = .returned (.bool true) ∧ Below w.heap.size w w' := by
  have b1 := below_new w (.cells #[.slice ao ts.length cap, .int .i64 0] 32)
  have hT := Tap.new w ao ts.length cap
  have hR := ht.below b1
  have hB := ht.lt
  obtain ⟨W1, hW1⟩ : ∃ W1, W1 = w.alloc (.cells #[.slice ao ts.length cap, .int .i64 0] 32) := ⟨_, rfl⟩
  rw [← hW1] at b1 hT hR
  obtain ⟨B, hBB⟩ : ∃ B, B = w.heap.size := ⟨_, rfl⟩
  have hB1 : W1.heap.size = B + 1 := by rw [hW1, hBB]; simp
  rw [← hBB] at hT hB
  obtain ⟨n, hn⟩ : ∃ n, n = ts.length := ⟨_, rfl⟩
  have IT := Lib.hid (Item_v 1 (by omega) 1 rfl B ao cap ts 0 W1 hT hR hB (by omega))
  have HB1 := Lib.hid b1
  have HS1 := Lib.hid hB1
  have HR1 := Lib.hid hR
  have HTB := Lib.hid hB
  rw [← hn] at hW1 ⊢
  clear ht b1 hT hR hB hB1 hn
  go_enter Try.func4, Try.ntmps4
  go_wp2_with fail
  rw [← hW1]
  try rw [← hBB]
  refine IT.out.mono ?_; rintro e w2 ⟨p, ga, l, ca, cb, rfl, hitm, hpw, hco, hl, hown, hgr, hT2⟩
  have IT2 := Lib.hid (Item_v 2 (by omega) 2 rfl B ao cap ts _ w2 hT2 (HR1.out.keep HTB.out (gbB hgr (Nat.le_refl _) (by have := HS1.out; omega))) HTB.out (by omega))
  have h12 := hgr.size
  have bw2 : Below w.heap.size w w2 := HB1.out.trans (gbB hgr (by omega) (by have := HS1.out; omega))
  have hga := hown.lt ga rfl
  have HI1 : Hid (ITM 1 p ∧ VPw ca ∧ VCo cb ∧ ItL ca cb l) := ⟨hitm, hpw, hco, hl⟩
  have HO1 := Lib.hid hown
  have HBW := Lib.hid bw2
  have HGA : Hid (W1.heap.size ≤ ga ∧ ga < w2.heap.size ∧ W1.heap.size ≤ w2.heap.size) := ⟨hga.1, hga.2, h12⟩
  clear hitm hpw hco hl hown hgr hT2 bw2 hga h12 IT hW1
  go_wp2_with fail
  try rw [← hBB]
  refine IT2.out.mono ?_; rintro e w3 ⟨p', gb, l', ca', cb', rfl, hitm', hpw', hco', hl', hown', hgr', _⟩
  have hgb := hown'.lt gb rfl
  have hs3 := hgr'.size
  have HI2 : Hid (ITM 2 p' ∧ VPw ca' ∧ VCo cb' ∧ ItL ca' cb' l') := ⟨hitm', hpw', hco', hl'⟩
  have HO2 := Lib.hid hown'
  have HO1' : Hid (w3.ownsRow W1.heap.size 42 2 (.slice (some ⟨ga, 0, none⟩) 2 2) 2 (atv l)) := HO1.out.kept hgr' (.inr (by simp [Value.ownBlock]; have := HGA.out; have := HS1.out; omega))
  have HBW3 : Hid (Below w.heap.size w w3) := HBW.out.trans (gbB hgr' (by omega) (by have := HGA.out; have := HS1.out; omega))
  obtain ⟨W4, hW4⟩ : ∃ W, W = w3.alloc (.cells #[.string p.id, .string p.co, .string p.br, .int .i64 p.d, .int .i64 p.c, .int .i64 p.a, .slice (some ⟨ga, 0, none⟩) 2 2] 26) := ⟨_, rfl⟩
  obtain ⟨W5, hW5⟩ : ∃ W, W = W4.alloc (.cells #[.string p'.id, .string p'.co, .string p'.br, .int .i64 p'.d, .int .i64 p'.c, .int .i64 p'.a, .slice (some ⟨gb, 0, none⟩) 2 2] 26) := ⟨_, rfl⟩
  clear hitm' hpw' hco' hl' hown' hgr' IT2 HO1
  go_upto_region 3 with fail
  rw [← hW4, ← hW5]
  have s4 : W4.heap.size = w3.heap.size + 1 := by rw [hW4]; exact World.size_alloc _ _
  have b4 : Below w3.heap.size w3 W4 := by rw [hW4]; exact below_new _ _
  have b5 : Below w3.heap.size w3 W5 := by rw [hW5]; exact keep b4 (below_new _ _)
  have P5 : PB W5 w3.heap.size p (.slice (some ⟨ga, 0, none⟩) 2 2) := by rw [hW5]; exact (show PB W4 w3.heap.size p (.slice (some ⟨ga, 0, none⟩) 2 2) by rw [hW4]; exact PB.new _ _ _).below (below_new _ _)
  have Q5 : PB W5 (w3.heap.size + 1) p' (.slice (some ⟨gb, 0, none⟩) 2 2) := by rw [hW5, ← s4]; exact PB.new _ _ _
  have hll : l.length = 2 ∧ l'.length = 2 := by
    rcases HI1.out.2.2.2 with h | h <;> rcases HI2.out.2.2.2 with h' | h' <;> rw [h, h'] <;> exact ⟨rfl, rfl⟩
  obtain ⟨hll1, hll2⟩ := hll
  have R5 : RdA W5 (some ⟨ga, 0, none⟩) 2 l := by
    obtain ⟨ao', cp', e', r', _⟩ := RdA.of_row (own_below HO1'.out b5)
    injection e' with e1 _ e3
    rw [e1, e3]; exact r'
  have K5 : RdA W5 (some ⟨gb, 0, none⟩) 2 l' := by
    obtain ⟨ao', cp', e', r', _⟩ := RdA.of_row (own_below HO2.out b5)
    injection e' with e1 _ e3
    rw [e1, e3]; exact r'
  have B5 : Below w.heap.size w W5 := keep HBW3.out b5
  obtain ⟨g4, hg4⟩ : ∃ g, g = w3.heap.size := ⟨_, rfl⟩
  obtain ⟨g5, hg5⟩ : ∃ g, g = w3.heap.size + 1 := ⟨_, rfl⟩
  rw [← hg4] at P5
  rw [← hg5] at Q5
  rw [← hg5, ← hg4]
  have hg45 : g4 ≠ g5 := by omega
  have HP5 := Lib.hid P5
  have HQ5 := Lib.hid Q5
  have HR5 := Lib.hid R5
  have HK5 := Lib.hid K5
  have HB5 := Lib.hid B5
  have HLL : Hid (l.length = 2 ∧ l'.length = 2) := ⟨hll1, hll2⟩
  have HAS : Hid (AS l ∧ AS l') := by
    have key : ∀ {x y : ByteArray} {m : List Atr}, VPw x → VCo y → ItL x y m → AS m := by
      intro x y m hx hy hm z hz
      have h1 : pwr.size ≤ 1000 := by decide
      have h2 : clr.size ≤ 1000 := by decide
      have h3 : x.size ≤ 1000 := by rcases hx with rfl | rfl | rfl | rfl <;> decide
      have h4 : y.size ≤ 1000 := by rcases hy with rfl | rfl | rfl <;> decide
      rcases (hm.mem z).1 hz with rfl | rfl
      · exact ⟨h1, h3⟩
      · exact ⟨h2, h4⟩
    exact ⟨key HI1.out.2.1 HI1.out.2.2.1 HI1.out.2.2.2, key HI2.out.2.1 HI2.out.2.2.1 HI2.out.2.2.2⟩
  clear s4 b4 b5 P5 Q5 R5 K5 B5 hW4 hW5 hg4 hg5 hll1 hll2 hs3 hgb HO1' HO2 HBW3 HBW HGA
  go_cut [6] from 15 to 33 (fun v6 (wx : World) => ∃ sb : Bool, v6 = .bool sb ∧ Hid (sb = true ↔ p.co = p'.co ∧ dnm l l' = []) ∧ Hid (Below W5.heap.size W5 wx))
  case first =>
    have hbr : p'.br = p.br := by rw [HI1.out.1.2.2.1, HI2.out.1.2.2.1]
    obtain ⟨k0, k1, k2, k3, k4, k5, k6⟩ := HP5.out.cells
    obtain ⟨q0, q1, q2, q3, q4, q5, q6⟩ := HQ5.out.cells
    rw [hbr] at q2
    have e1 := eqs p.br
    by_cases hco : p.co = p'.co
    · rw [← hco] at q1
      have e0 := eqs p.co
      have DV := Differences_v p ⟨p'.id, p.co, p.br, p'.d, p'.c, p'.a⟩ (some ⟨ga, 0, none⟩) (some ⟨gb, 0, none⟩) 2 2 l l' W5 HR5.out HK5.out (by rw [HLL.out.1]; decide) (by rw [HLL.out.2]; decide) HAS.out.1 HAS.out.2
      rw [HLL.out.1, HLL.out.2] at DV
      have HDV := Lib.hid DV
      have HCO := Lib.hid hco
      clear hbr hco DV
      go_wp2_with fail
      refine HDV.out.mono ?_; rintro e w6 ⟨a6, q, c6, rfl, hq, _, hb6⟩
      have HQ6 := Lib.hid hq
      have HB6 := Lib.hid hb6
      by_cases hnil : dnm l l' = []
      · have hq0 : q = 0 := by rw [hq, hnil]; rfl
        subst hq0
        have HNL := Lib.hid hnil
        clear hq hb6 hnil
        go_wp2_with fail
        go_meet
        exact ⟨true, rfl, ⟨fun _ => ⟨HCO.out, HNL.out⟩, fun _ => rfl⟩, HB6.out⟩
      · have hq0 : ¬ q = 0 := by rw [hq]; intro h; exact hnil (List.eq_nil_of_length_eq_zero h)
        have hq1 : ((q : Int) == 0) = false := beq_eq_false_iff_ne.2 (by omega)
        have hq2 : ¬ (q : Int) = 0 := by omega
        have HNL := Lib.hid hnil
        clear hq hb6 hnil
        go_wp2_with fail
        go_meet
        exact ⟨false, rfl, ⟨fun h => (by cases h), fun h => absurd h.2 HNL.out⟩, HB6.out⟩
    · have e0 := bytes_ne hco
      have HCO : Hid (¬ p.co = p'.co) := hco
      clear hbr hco
      go_wp2_with fail
      go_meet
      exact ⟨false, rfl, ⟨fun h => (by cases h), fun h => absurd h.1 HCO.out⟩, Below.refl _ _⟩
  case rest =>
    obtain ⟨sb, rfl, hsb, hbc⟩ := hcut
    obtain ⟨k0, k1, k2, k3, k4, k5, k6⟩ := (HP5.out.below hbc.out).cells
    obtain ⟨W7, hW7⟩ : ∃ W, W = wc.alloc (.cells #[.string p.id, .string p.co, .string p.br, .int .i64 p.d, .int .i64 p.c, .int .i64 p.a, .slice (some ⟨ga, 0, none⟩) 2 2] 26) := ⟨_, rfl⟩
    obtain ⟨g7, hg7⟩ : ∃ g, g = wc.heap.size := ⟨_, rfl⟩
    have b7 : Below wc.heap.size wc W7 := by rw [hW7]; exact below_new _ _
    have N7 : PB W7 g7 p (.slice (some ⟨ga, 0, none⟩) 2 2) := by rw [hW7, hg7]; exact PB.new _ _ _
    have B7 : Below W5.heap.size W5 W7 := keep hbc.out b7
    have h5c : W5.heap.size ≤ g7 := by rw [hg7]; exact hbc.out.size
    have hg7l := N7.lt
    have HB7 := Lib.hid B7
    have HN7 := Lib.hid N7
    have hg4l := HP5.out.lt
    have hg5l := HQ5.out.lt
    have hg47 : g4 ≠ g7 := by omega
    have hg57 : g5 ≠ g7 := by omega
    go_upto_region 5 with fail
    rw [← hW7]
    try rw [← hg7]
    clear hW7 hg7 b7 N7 B7 k0 k1 k2 k3 k4 k5 k6
    obtain ⟨k0, k1, k2, k3, k4, k5, k6⟩ := HN7.out.cells
    obtain ⟨f0, f1, f2, f3, f4, f5, f6⟩ := HN7.out.fz
    obtain ⟨q0, q1, q2, q3, q4, q5, q6⟩ := (HQ5.out.below HB7.out).cells
    go_region
    all_goals
      obtain ⟨W8, hW8⟩ : ∃ W : World, W = ((((W7.setCell ⟨g7, 0, none⟩ (.string p'.id)).setCell ⟨g7, 3, none⟩ (.int .i64 p'.d)).setCell ⟨g7, 4, none⟩ (.int .i64 p'.c)).setCell ⟨g7, 5, none⟩ (.int .i64 p'.a)).drew := ⟨_, rfl⟩
      have N8 : PB W8 g7 ⟨p'.id, p.co, p.br, p'.d, p'.c, p'.a⟩ (.slice (some ⟨ga, 0, none⟩) 2 2) := by
        have h := HN7.out
        unfold PB at h ⊢
        rw [hW8]
        show ((((W7.setCell ⟨g7, 0, none⟩ (.string p'.id)).setCell ⟨g7, 3, none⟩ (.int .i64 p'.d)).setCell ⟨g7, 4, none⟩ (.int .i64 p'.c)).setCell ⟨g7, 5, none⟩ (.int .i64 p'.a)).heap[g7]? = _
        simp [World.setCell, Array.getElem?_modify, h]
      have B8 : Below W5.heap.size W5 W8 := by
        rw [hW8]
        exact ((((HB7.out.setCell h5c _).setCell h5c _).setCell h5c _).setCell h5c _).drew
      go_upto_region 6 with fail
      rw [← hW8]
      have HN8 := Lib.hid N8
      have HB8 := Lib.hid B8
      clear hW8 N8 B8 k0 k1 k2 k3 k4 k5 k6 f0 f1 f2 f3 f4 f5 f6 q0 q1 q2 q3 q4 q5 q6
      obtain ⟨f0, f1, f2, f3, f4, f5, f6⟩ := HN8.out.fz
      obtain ⟨m0, m1, m2, m3, m4, m5, m6⟩ := HN8.out.cells
      have k6 := (HP5.out.below HB8.out).cells.2.2.2.2.2.2
      obtain ⟨x, y, hxy⟩ : ∃ x y, l = [x, y] := by
        match l, HLL.out.1 with
        | [x, y], _ => exact ⟨x, y, rfl⟩
      obtain ⟨b, o, e, hcs⟩ := (HR5.out.below HB8.out).at (i := 0) (by rw [HLL.out.1]; decide)
      cases e
      obtain ⟨c0, c1⟩ := hcs 0 (by rw [HLL.out.1]; decide)
      obtain ⟨d0, d1⟩ := hcs 1 (by rw [HLL.out.1]; decide)
      rw [hxy] at c0 c1 d0 d1
      obtain ⟨x1, x2⟩ := x
      obtain ⟨y1, y2⟩ := y
      simp only [List.getD, List.getElem?_cons_zero, List.getElem?_cons_succ, Option.getD_some, Nat.zero_add, Nat.zero_mul, Nat.one_mul] at c0 c1 d0 d1
      have hg8l := HN8.out.lt
      clear hcs
      go_region
      all_goals
        obtain ⟨W9, hW9⟩ : ∃ W : World, W = ((W8.setCell ⟨g7, 6, none⟩ (.slice (some ⟨W8.heap.size, 0, none⟩) 2 2)).alloc (.cells #[.string y1, .string y2, .string x1, .string x2] 42)).drew := ⟨_, rfl⟩
        obtain ⟨g9, hg9⟩ : ∃ g, g = W8.heap.size := ⟨_, rfl⟩
        go_upto_region 7 with fail
        rw [← hW9]
        have hz : (W8.setCell ⟨g7, 6, none⟩ (.slice (some ⟨W8.heap.size, 0, none⟩) 2 2)).heap.size = W8.heap.size := by simp [World.setCell]
        have N9 : PB W9 g7 ⟨p'.id, p.co, p.br, p'.d, p'.c, p'.a⟩ (.slice (some ⟨g9, 0, none⟩) 2 2) := by
          rw [hW9, hg9]
          exact (HN8.out.set6 (.slice (some ⟨W8.heap.size, 0, none⟩) 2 2)).below (below_new _ _).drew
        have x9 : W9.heap[g9]? = some (.cells #[.string y1, .string y2, .string x1, .string x2] 42 (0, 0)) := by
          rw [hW9, hg9]
          have := heap_alloc_new (W8.setCell ⟨g7, 6, none⟩ (.slice (some ⟨W8.heap.size, 0, none⟩) 2 2)) (.cells #[.string y1, .string y2, .string x1, .string x2] 42)
          rw [hz] at this
          exact this
        have R9 : RdA W9 (some ⟨g9, 0, none⟩) 2 [(y1, y2), (x1, x2)] := by
          obtain ⟨ao', cp', e', r', _⟩ := RdA.of_row (row_of2 x9 (Nat.le_refl _))
          injection e' with e1 _ e3
          rw [e1, e3]; exact r'
        have B9 : Below W5.heap.size W5 W9 := by
          rw [hW9]
          exact (keep (HB8.out.setCell h5c _) (below_new _ _)).drew
        clear hW9 hg9 hz x9 c0 c1 d0 d1 k6 m0 m1 m2 m3 m4 m5 m6 f0 f1 f2 f3 f4 f5 f6
        have IC : ItL ca cb [(y1, y2), (x1, x2)] := by
          rcases HI1.out.2.2.2 with h | h
          · rw [hxy] at h; cases h; exact .inr rfl
          · rw [hxy] at h; cases h; exact .inl rfl
        have SZ : ∀ {q : Pd} {k : Nat} {x y : ByteArray} {m : List Atr}, ITM k q → VPw x → VCo y → ItL x y m → Sz q m := by
          intro q k x y m hq hx hy hm
          have h1 : pwr.size ≤ 100 := by decide
          have h2 : clr.size ≤ 100 := by decide
          have h3 : x.size ≤ 100 := by rcases hx with rfl | rfl | rfl | rfl <;> decide
          have h4 : y.size ≤ 100 := by rcases hy with rfl | rfl | rfl <;> decide
          refine ⟨by rcases hq.2.1 with h | h <;> rw [h] <;> decide, by rw [hq.2.2.1]; decide, fun z hz => ?_⟩
          rcases (hm.mem z).1 hz with rfl | rfl
          · exact ⟨h1, h3⟩
          · exact ⟨h2, h4⟩
        have S1 := SZ HI1.out.1 HI1.out.2.1 HI1.out.2.2.1 HI1.out.2.2.2
        have S2 := SZ HI2.out.1 HI2.out.2.1 HI2.out.2.2.1 HI2.out.2.2.2
        have S3 : Sz ⟨p'.id, p.co, p.br, p'.d, p'.c, p'.a⟩ [(y1, y2), (x1, x2)] := by
          have := SZ HI1.out.1 HI1.out.2.1 HI1.out.2.2.1 IC
          exact ⟨this.co, this.br, this.at1⟩
        obtain ⟨KA, hKA⟩ : ∃ x, x = keyB p l := ⟨_, rfl⟩
        obtain ⟨KB, hKB⟩ : ∃ x, x = keyB p' l' := ⟨_, rfl⟩
        have hKC : keyB ⟨p'.id, p.co, p.br, p'.d, p'.c, p'.a⟩ [(y1, y2), (x1, x2)] = KA := by rw [hKA]; exact key_same rfl rfl IC HI1.out.2.2.2
        have hkk : (KA.toList == KB.toList) = sb := by
          have h := key_item HI1.out.1 HI2.out.1 HI1.out.2.1 HI1.out.2.2.1 HI2.out.2.1 HI2.out.2.2.1 HI1.out.2.2.2 HI2.out.2.2.2
          rw [← hKA, ← hKB, ← hsb.out] at h
          cases sb with
          | true => exact (bytes_eq' KA KB).2 (h.2 rfl)
          | false => exact bytes_ne' (fun e => by have := h.1 e; cases this)
        have hdn : dnm l [(y1, y2), (x1, x2)] = [] := (HI1.out.2.2.2.dnm IC).2 ⟨rfl, rfl⟩
        have CA : Hid (∀ W', Below W9.heap.size W9 W' → Calls Try.prog 11 #[.agg #[.string p.id, .string p.co, .string p.br, .int .i64 p.d, .int .i64 p.c, .int .i64 p.a, .slice (some ⟨ga, 0, none⟩) 2 2]] W' fun e w' => e = .returned (.string KA) ∧ Below W'.heap.size W' w') := fun W' hb => by
          have := Key_v p (some ⟨ga, 0, none⟩) 2 l W' ((HR5.out.below B9).below hb) (by rw [HLL.out.1]; decide) S1
          rw [HLL.out.1, ← hKA] at this
          exact this
        have CB : Hid (∀ W', Below W9.heap.size W9 W' → Calls Try.prog 11 #[.agg #[.string p'.id, .string p'.co, .string p'.br, .int .i64 p'.d, .int .i64 p'.c, .int .i64 p'.a, .slice (some ⟨gb, 0, none⟩) 2 2]] W' fun e w' => e = .returned (.string KB) ∧ Below W'.heap.size W' w') := fun W' hb => by
          have := Key_v p' (some ⟨gb, 0, none⟩) 2 l' W' ((HK5.out.below B9).below hb) (by rw [HLL.out.2]; decide) S2
          rw [HLL.out.2, ← hKB] at this
          exact this
        have CC : Hid (∀ W', Below W9.heap.size W9 W' → Calls Try.prog 11 #[.agg #[.string p'.id, .string p.co, .string p.br, .int .i64 p'.d, .int .i64 p'.c, .int .i64 p'.a, .slice (some ⟨g9, 0, none⟩) 2 2]] W' fun e w' => e = .returned (.string KA) ∧ Below W'.heap.size W' w') := fun W' hb => by
          have := Key_v ⟨p'.id, p.co, p.br, p'.d, p'.c, p'.a⟩ (some ⟨g9, 0, none⟩) 2 [(y1, y2), (x1, x2)] W' (R9.below hb) (by simp) S3
          rw [hKC] at this
          exact this
        have CD : Hid (∀ W', Below W9.heap.size W9 W' → Calls Try.prog 15 #[.agg #[.string p.id, .string p.co, .string p.br, .int .i64 p.d, .int .i64 p.c, .int .i64 p.a, .slice (some ⟨ga, 0, none⟩) 2 2], .agg #[.string p'.id, .string p.co, .string p.br, .int .i64 p'.d, .int .i64 p'.c, .int .i64 p'.a, .slice (some ⟨g9, 0, none⟩) 2 2]] W' fun e w' => (∃ (a : Option Addr) (c : Nat), e = .returned (.slice a 0 c)) ∧ Below W'.heap.size W' w') := fun W' hb => by
          have := Differences_v p ⟨p'.id, p.co, p.br, p'.d, p'.c, p'.a⟩ (some ⟨ga, 0, none⟩) (some ⟨g9, 0, none⟩) 2 2 l [(y1, y2), (x1, x2)] W' ((HR5.out.below B9).below hb) (R9.below hb) (by rw [HLL.out.1]; decide) (by simp) HAS.out.1 (fun z hz => by have := S3.at1 z hz; omega)
          rw [HLL.out.1] at this
          refine this.mono ?_
          rintro e w' ⟨a, q, c, rfl, hq, _, hb'⟩
          have hq0 : q = 0 := by rw [hq, hdn]; rfl
          subst hq0
          exact ⟨⟨a, c, rfl⟩, hb'⟩
        have PA : ∀ {w1 : World}, Below W9.heap.size W9 w1 → PB w1 g4 p (.slice (some ⟨ga, 0, none⟩) 2 2) := fun h => (HP5.out.below B9).below h
        have PBb : ∀ {w1 : World}, Below W9.heap.size W9 w1 → PB w1 g5 p' (.slice (some ⟨gb, 0, none⟩) 2 2) := fun h => (HQ5.out.below B9).below h
        have PC : ∀ {w1 : World}, Below W9.heap.size W9 w1 → PB w1 g7 ⟨p'.id, p.co, p.br, p'.d, p'.c, p'.a⟩ (.slice (some ⟨g9, 0, none⟩) 2 2) := fun h => N9.below h
        have HB9 : Hid (Below w.heap.size w W9) := keep HB5.out B9
        have HKK := Lib.hid hkk
        clear hKA hKB hKC hdn S1 S2 S3 SZ IC N9 R9 B9 hxy hsb hbc HN8 HB8 HN7 HB7 hkk
        refine wp_region_any (by kernel_rfl) ?_
        refine region_ssa [51, 52, 53, 54, 55, 56, 57, 58, 59, 60, 61, 62, 63, 64, 65, 66, 67, 68, 69, 70, 71, 72, 73, 74, 2] (Below W9.heap.size W9) (Below W9.heap.size) (RP (KyR p p' ga gb g9 KA KB sb)) (fun _ _ _ => True) (fun f => rfl) (by kernel_rfl) (by kernel_rfl) ?_ ?_ ?_ ?_ (stepG_below (n := 25) ?_) ?_
        · exact (Below.refl _ _).drew
        · intro _; trivial
        · intro i v w1 w2 _ h _; exact h
        · intro w1 w2 hB hE; exact hB.trans hE
        · refine AllF.step (m := 24) (j := 1) rfl ?_ ?_
          · intro D f w1 hD hB hR hp hcl hX
            obtain ⟨k0, k1, k2, k3, k4, k5, k6⟩ := (PA hB).cells
            have HB := Lib.hid hB
            clear hX hcl hB hD hR hp
            refine WpO.step rfl (fun K hK => ?_)
            simp only [putAll, Act.put, List.setIfInBounds_toArray, List.set_cons_succ, List.set_cons_zero]
            go_simp
            exact hK _ _ ⟨.agg #[.string p.id, .string p.co, .string p.br, .int .i64 p.d, .int .i64 p.c, .int .i64 p.a, .slice (some ⟨ga, 0, none⟩) 2 2], (by show _ = Act.put _ (some 51) _; simp only [putAll, Act.put, List.setIfInBounds_toArray, List.set_cons_succ, List.set_cons_zero, *]; all_goals rfl), rfl, Below.refl _ _, trivial⟩
          refine AllF.step (m := 23) (j := 2) rfl ?_ ?_
          · intro D f w1 hD hB hR hp hcl hX
            have e0 : f 51 = .agg #[.string p.id, .string p.co, .string p.br, .int .i64 p.d, .int .i64 p.c, .int .i64 p.a, .slice (some ⟨ga, 0, none⟩) 2 2] := (hpAt hp 0 (by kernel_rfl)).2
            have HB := Lib.hid hB
            clear hX hcl hB hD hR hp
            refine WpO.step rfl (fun K hK => ?_)
            simp only [putAll, Act.put, List.setIfInBounds_toArray, List.set_cons_succ, List.set_cons_zero]
            go_simp
            refine (CA.out w1 HB.out).mono ?_; rintro e w2 ⟨rfl, b2⟩
            go_simp
            have hE : Below W9.heap.size w1 w2 := b2.mono HB.out.size
            exact hK _ _ ⟨.string KA, (by show _ = Act.put _ (some 52) _; simp only [putAll, Act.put, List.setIfInBounds_toArray, List.set_cons_succ, List.set_cons_zero, *]; all_goals rfl), rfl, hE, trivial⟩
          refine AllF.step (m := 22) (j := 3) rfl ?_ ?_
          · intro D f w1 hD hB hR hp hcl hX
            obtain ⟨k0, k1, k2, k3, k4, k5, k6⟩ := (PBb hB).cells
            have HB := Lib.hid hB
            clear hX hcl hB hD hR hp
            refine WpO.step rfl (fun K hK => ?_)
            simp only [putAll, Act.put, List.setIfInBounds_toArray, List.set_cons_succ, List.set_cons_zero]
            go_simp
            exact hK _ _ ⟨.agg #[.string p'.id, .string p'.co, .string p'.br, .int .i64 p'.d, .int .i64 p'.c, .int .i64 p'.a, .slice (some ⟨gb, 0, none⟩) 2 2], (by show _ = Act.put _ (some 53) _; simp only [putAll, Act.put, List.setIfInBounds_toArray, List.set_cons_succ, List.set_cons_zero, *]; all_goals rfl), rfl, Below.refl _ _, trivial⟩
          refine AllF.step (m := 21) (j := 4) rfl ?_ ?_
          · intro D f w1 hD hB hR hp hcl hX
            have e2 : f 53 = .agg #[.string p'.id, .string p'.co, .string p'.br, .int .i64 p'.d, .int .i64 p'.c, .int .i64 p'.a, .slice (some ⟨gb, 0, none⟩) 2 2] := (hpAt hp 2 (by kernel_rfl)).2
            have HB := Lib.hid hB
            clear hX hcl hB hD hR hp
            refine WpO.step rfl (fun K hK => ?_)
            simp only [putAll, Act.put, List.setIfInBounds_toArray, List.set_cons_succ, List.set_cons_zero]
            go_simp
            refine (CB.out w1 HB.out).mono ?_; rintro e w2 ⟨rfl, b2⟩
            go_simp
            have hE : Below W9.heap.size w1 w2 := b2.mono HB.out.size
            exact hK _ _ ⟨.string KB, (by show _ = Act.put _ (some 54) _; simp only [putAll, Act.put, List.setIfInBounds_toArray, List.set_cons_succ, List.set_cons_zero, *]; all_goals rfl), rfl, hE, trivial⟩
          refine AllF.step (m := 20) (j := 5) rfl ?_ ?_
          · intro D f w1 hD hB hR hp hcl hX
            have e1 : f 52 = .string KA := (hpAt hp 1 (by kernel_rfl)).2
            have e3 : f 54 = .string KB := (hpAt hp 3 (by kernel_rfl)).2
            have hkk := HKK.out
            have HB := Lib.hid hB
            clear hX hcl hB hD hR hp
            refine WpO.step rfl (fun K hK => ?_)
            simp only [putAll, Act.put, List.setIfInBounds_toArray, List.set_cons_succ, List.set_cons_zero]
            go_simp
            exact hK _ _ ⟨.bool sb, (by show _ = Act.put _ (some 55) _; simp only [putAll, Act.put, List.setIfInBounds_toArray, List.set_cons_succ, List.set_cons_zero, *]; all_goals rfl), rfl, Below.refl _ _, trivial⟩
          refine AllF.step (m := 19) (j := 6) rfl ?_ ?_
          · intro D f w1 hD hB hR hp hcl hX
            have HB := Lib.hid hB
            clear hX hcl hB hD hR hp
            refine WpO.step rfl (fun K hK => ?_)
            simp only [putAll, Act.put, List.setIfInBounds_toArray, List.set_cons_succ, List.set_cons_zero]
            go_simp
            exact hK _ _ ⟨.bool sb, (by show _ = Act.put _ (some 56) _; simp only [putAll, Act.put, List.setIfInBounds_toArray, List.set_cons_succ, List.set_cons_zero, *]; all_goals rfl), rfl, Below.refl _ _, trivial⟩
          refine AllF.step (m := 18) (j := 7) rfl ?_ ?_
          · intro D f w1 hD hB hR hp hcl hX
            have e4 : f 55 = .bool sb := (hpAt hp 4 (by kernel_rfl)).2
            have e5 : f 56 = .bool sb := (hpAt hp 5 (by kernel_rfl)).2
            have HB := Lib.hid hB
            clear hX hcl hB hD hR hp
            refine WpO.step rfl (fun K hK => ?_)
            simp only [putAll, Act.put, List.setIfInBounds_toArray, List.set_cons_succ, List.set_cons_zero]
            go_simp
            exact hK _ _ ⟨.bool true, (by show _ = Act.put _ (some 57) _; simp only [putAll, Act.put, List.setIfInBounds_toArray, List.set_cons_succ, List.set_cons_zero, *]; all_goals rfl), rfl, Below.refl _ _, trivial⟩
          refine AllF.step (m := 17) (j := 8) rfl ?_ ?_
          · intro D f w1 hD hB hR hp hcl hX
            have e6 : f 57 = .bool true := (hpAt hp 6 (by kernel_rfl)).2
            have HB := Lib.hid hB
            clear hX hcl hB hD hR hp
            refine WpO.step rfl (fun K hK => ?_)
            simp only [putAll, Act.put, List.setIfInBounds_toArray, List.set_cons_succ, List.set_cons_zero]
            go_simp
            exact hK _ _ ⟨.bool true, (by show _ = Act.put _ (some 58) _; simp only [putAll, Act.put, List.setIfInBounds_toArray, List.set_cons_succ, List.set_cons_zero, *]; all_goals rfl), rfl, Below.refl _ _, trivial⟩
          refine AllF.step (m := 16) (j := 9) rfl ?_ ?_
          · intro D f w1 hD hB hR hp hcl hX
            have e7 : f 58 = .bool true := (hpAt hp 7 (by kernel_rfl)).2
            have k0 : w1.cell? ⟨g7, 0, none⟩ = some (.string p'.id) := (PC hB).cells.1
            have k1 : w1.cell? ⟨g7, 1, none⟩ = some (.string p.co) := (PC hB).cells.2.1
            have k2 : w1.cell? ⟨g7, 2, none⟩ = some (.string p.br) := (PC hB).cells.2.2.1
            have k3 : w1.cell? ⟨g7, 3, none⟩ = some (.int .i64 p'.d) := (PC hB).cells.2.2.2.1
            have k4 : w1.cell? ⟨g7, 4, none⟩ = some (.int .i64 p'.c) := (PC hB).cells.2.2.2.2.1
            have k5 : w1.cell? ⟨g7, 5, none⟩ = some (.int .i64 p'.a) := (PC hB).cells.2.2.2.2.2.1
            have k6 : w1.cell? ⟨g7, 6, none⟩ = some (.slice (some ⟨g9, 0, none⟩) 2 2) := (PC hB).cells.2.2.2.2.2.2
            have HB := Lib.hid hB
            clear hX hcl hB hD hR hp
            refine WpO.guarded 7 58 true rfl rfl rfl (by kernel_rfl) (by kernel_rfl) e7 (fun K hK => ?_)
            simp only [putAll, Act.put, List.setIfInBounds_toArray, List.set_cons_succ, List.set_cons_zero]
            go_simp
            exact hK _ _ ⟨.agg #[.string p'.id, .string p.co, .string p.br, .int .i64 p'.d, .int .i64 p'.c, .int .i64 p'.a, .slice (some ⟨g9, 0, none⟩) 2 2], (by show _ = Act.put _ (some 59) _; simp only [putAll, Act.put, List.setIfInBounds_toArray, List.set_cons_succ, List.set_cons_zero, *]; all_goals rfl), rfl, Below.refl _ _, trivial⟩
          refine AllF.step (m := 15) (j := 10) rfl ?_ ?_
          · intro D f w1 hD hB hR hp hcl hX
            have e7 : f 58 = .bool true := (hpAt hp 7 (by kernel_rfl)).2
            have e8 : f 59 = .agg #[.string p'.id, .string p.co, .string p.br, .int .i64 p'.d, .int .i64 p'.c, .int .i64 p'.a, .slice (some ⟨g9, 0, none⟩) 2 2] := (hpAt hp 8 (by kernel_rfl)).2
            have HB := Lib.hid hB
            clear hX hcl hB hD hR hp
            refine WpO.guarded 7 58 true rfl rfl rfl (by kernel_rfl) (by kernel_rfl) e7 (fun K hK => ?_)
            simp only [putAll, Act.put, List.setIfInBounds_toArray, List.set_cons_succ, List.set_cons_zero]
            go_simp
            refine (CC.out w1 HB.out).mono ?_; rintro e w2 ⟨rfl, b2⟩
            go_simp
            have hE : Below W9.heap.size w1 w2 := b2.mono HB.out.size
            exact hK _ _ ⟨.string KA, (by show _ = Act.put _ (some 60) _; simp only [putAll, Act.put, List.setIfInBounds_toArray, List.set_cons_succ, List.set_cons_zero, *]; all_goals rfl), rfl, hE, trivial⟩
          refine AllF.step (m := 14) (j := 11) rfl ?_ ?_
          · intro D f w1 hD hB hR hp hcl hX
            have e7 : f 58 = .bool true := (hpAt hp 7 (by kernel_rfl)).2
            obtain ⟨k0, k1, k2, k3, k4, k5, k6⟩ := (PA hB).cells
            have HB := Lib.hid hB
            clear hX hcl hB hD hR hp
            refine WpO.guarded 7 58 true rfl rfl rfl (by kernel_rfl) (by kernel_rfl) e7 (fun K hK => ?_)
            simp only [putAll, Act.put, List.setIfInBounds_toArray, List.set_cons_succ, List.set_cons_zero]
            go_simp
            exact hK _ _ ⟨.agg #[.string p.id, .string p.co, .string p.br, .int .i64 p.d, .int .i64 p.c, .int .i64 p.a, .slice (some ⟨ga, 0, none⟩) 2 2], (by show _ = Act.put _ (some 61) _; simp only [putAll, Act.put, List.setIfInBounds_toArray, List.set_cons_succ, List.set_cons_zero, *]; all_goals rfl), rfl, Below.refl _ _, trivial⟩
          refine AllF.step (m := 13) (j := 12) rfl ?_ ?_
          · intro D f w1 hD hB hR hp hcl hX
            have e7 : f 58 = .bool true := (hpAt hp 7 (by kernel_rfl)).2
            have e10 : f 61 = .agg #[.string p.id, .string p.co, .string p.br, .int .i64 p.d, .int .i64 p.c, .int .i64 p.a, .slice (some ⟨ga, 0, none⟩) 2 2] := (hpAt hp 10 (by kernel_rfl)).2
            have HB := Lib.hid hB
            clear hX hcl hB hD hR hp
            refine WpO.guarded 7 58 true rfl rfl rfl (by kernel_rfl) (by kernel_rfl) e7 (fun K hK => ?_)
            simp only [putAll, Act.put, List.setIfInBounds_toArray, List.set_cons_succ, List.set_cons_zero]
            go_simp
            refine (CA.out w1 HB.out).mono ?_; rintro e w2 ⟨rfl, b2⟩
            go_simp
            have hE : Below W9.heap.size w1 w2 := b2.mono HB.out.size
            exact hK _ _ ⟨.string KA, (by show _ = Act.put _ (some 62) _; simp only [putAll, Act.put, List.setIfInBounds_toArray, List.set_cons_succ, List.set_cons_zero, *]; all_goals rfl), rfl, hE, trivial⟩
          refine AllF.step (m := 12) (j := 13) rfl ?_ ?_
          · intro D f w1 hD hB hR hp hcl hX
            have e7 : f 58 = .bool true := (hpAt hp 7 (by kernel_rfl)).2
            have e9 : f 60 = .string KA := (hpAt hp 9 (by kernel_rfl)).2
            have e11 : f 62 = .string KA := (hpAt hp 11 (by kernel_rfl)).2
            have ekk := eqs KA
            have HB := Lib.hid hB
            clear hX hcl hB hD hR hp
            refine WpO.guarded 7 58 true rfl rfl rfl (by kernel_rfl) (by kernel_rfl) e7 (fun K hK => ?_)
            simp only [putAll, Act.put, List.setIfInBounds_toArray, List.set_cons_succ, List.set_cons_zero]
            go_simp
            exact hK _ _ ⟨.bool true, (by show _ = Act.put _ (some 63) _; simp only [putAll, Act.put, List.setIfInBounds_toArray, List.set_cons_succ, List.set_cons_zero, *]; all_goals rfl), rfl, Below.refl _ _, trivial⟩
          refine AllF.step (m := 11) (j := 14) rfl ?_ ?_
          · intro D f w1 hD hB hR hp hcl hX
            have e7 : f 58 = .bool true := (hpAt hp 7 (by kernel_rfl)).2
            have e12 : f 63 = .bool true := (hpAt hp 12 (by kernel_rfl)).2
            have HB := Lib.hid hB
            clear hX hcl hB hD hR hp
            refine WpO.step rfl (fun K hK => ?_)
            simp only [putAll, Act.put, List.setIfInBounds_toArray, List.set_cons_succ, List.set_cons_zero]
            go_simp
            exact hK _ _ ⟨.bool true, (by show _ = Act.put _ (some 64) _; simp only [putAll, Act.put, List.setIfInBounds_toArray, List.set_cons_succ, List.set_cons_zero, *]; all_goals rfl), rfl, Below.refl _ _, trivial⟩
          refine AllF.step (m := 10) (j := 15) rfl ?_ ?_
          · intro D f w1 hD hB hR hp hcl hX
            have e13 : f 64 = .bool true := (hpAt hp 13 (by kernel_rfl)).2
            have HB := Lib.hid hB
            clear hX hcl hB hD hR hp
            refine WpO.step rfl (fun K hK => ?_)
            simp only [putAll, Act.put, List.setIfInBounds_toArray, List.set_cons_succ, List.set_cons_zero]
            go_simp
            exact hK _ _ ⟨.bool true, (by show _ = Act.put _ (some 65) _; simp only [putAll, Act.put, List.setIfInBounds_toArray, List.set_cons_succ, List.set_cons_zero, *]; all_goals rfl), rfl, Below.refl _ _, trivial⟩
          refine AllF.step (m := 9) (j := 16) rfl ?_ ?_
          · intro D f w1 hD hB hR hp hcl hX
            have e14 : f 65 = .bool true := (hpAt hp 14 (by kernel_rfl)).2
            obtain ⟨k0, k1, k2, k3, k4, k5, k6⟩ := (PA hB).cells
            have HB := Lib.hid hB
            clear hX hcl hB hD hR hp
            refine WpO.guarded 14 65 true rfl rfl rfl (by kernel_rfl) (by kernel_rfl) e14 (fun K hK => ?_)
            simp only [putAll, Act.put, List.setIfInBounds_toArray, List.set_cons_succ, List.set_cons_zero]
            go_simp
            exact hK _ _ ⟨.agg #[.string p.id, .string p.co, .string p.br, .int .i64 p.d, .int .i64 p.c, .int .i64 p.a, .slice (some ⟨ga, 0, none⟩) 2 2], (by show _ = Act.put _ (some 66) _; simp only [putAll, Act.put, List.setIfInBounds_toArray, List.set_cons_succ, List.set_cons_zero, *]; all_goals rfl), rfl, Below.refl _ _, trivial⟩
          refine AllF.step (m := 8) (j := 17) rfl ?_ ?_
          · intro D f w1 hD hB hR hp hcl hX
            have e14 : f 65 = .bool true := (hpAt hp 14 (by kernel_rfl)).2
            have k0 : w1.cell? ⟨g7, 0, none⟩ = some (.string p'.id) := (PC hB).cells.1
            have k1 : w1.cell? ⟨g7, 1, none⟩ = some (.string p.co) := (PC hB).cells.2.1
            have k2 : w1.cell? ⟨g7, 2, none⟩ = some (.string p.br) := (PC hB).cells.2.2.1
            have k3 : w1.cell? ⟨g7, 3, none⟩ = some (.int .i64 p'.d) := (PC hB).cells.2.2.2.1
            have k4 : w1.cell? ⟨g7, 4, none⟩ = some (.int .i64 p'.c) := (PC hB).cells.2.2.2.2.1
            have k5 : w1.cell? ⟨g7, 5, none⟩ = some (.int .i64 p'.a) := (PC hB).cells.2.2.2.2.2.1
            have k6 : w1.cell? ⟨g7, 6, none⟩ = some (.slice (some ⟨g9, 0, none⟩) 2 2) := (PC hB).cells.2.2.2.2.2.2
            have HB := Lib.hid hB
            clear hX hcl hB hD hR hp
            refine WpO.guarded 14 65 true rfl rfl rfl (by kernel_rfl) (by kernel_rfl) e14 (fun K hK => ?_)
            simp only [putAll, Act.put, List.setIfInBounds_toArray, List.set_cons_succ, List.set_cons_zero]
            go_simp
            exact hK _ _ ⟨.agg #[.string p'.id, .string p.co, .string p.br, .int .i64 p'.d, .int .i64 p'.c, .int .i64 p'.a, .slice (some ⟨g9, 0, none⟩) 2 2], (by show _ = Act.put _ (some 67) _; simp only [putAll, Act.put, List.setIfInBounds_toArray, List.set_cons_succ, List.set_cons_zero, *]; all_goals rfl), rfl, Below.refl _ _, trivial⟩
          refine AllF.step (m := 7) (j := 18) rfl ?_ ?_
          · intro D f w1 hD hB hR hp hcl hX
            have e14 : f 65 = .bool true := (hpAt hp 14 (by kernel_rfl)).2
            have e15 : f 66 = .agg #[.string p.id, .string p.co, .string p.br, .int .i64 p.d, .int .i64 p.c, .int .i64 p.a, .slice (some ⟨ga, 0, none⟩) 2 2] := (hpAt hp 15 (by kernel_rfl)).2
            have e16 : f 67 = .agg #[.string p'.id, .string p.co, .string p.br, .int .i64 p'.d, .int .i64 p'.c, .int .i64 p'.a, .slice (some ⟨g9, 0, none⟩) 2 2] := (hpAt hp 16 (by kernel_rfl)).2
            have HB := Lib.hid hB
            clear hX hcl hB hD hR hp
            refine WpO.guarded 14 65 true rfl rfl rfl (by kernel_rfl) (by kernel_rfl) e14 (fun K hK => ?_)
            simp only [putAll, Act.put, List.setIfInBounds_toArray, List.set_cons_succ, List.set_cons_zero]
            go_simp
            refine (CD.out w1 HB.out).mono ?_; rintro e w2 ⟨⟨a0, c0, rfl⟩, b2⟩
            go_simp
            have hE : Below W9.heap.size w1 w2 := b2.mono HB.out.size
            exact hK _ _ ⟨.slice a0 0 c0, (by show _ = Act.put _ (some 68) _; simp only [putAll, Act.put, List.setIfInBounds_toArray, List.set_cons_succ, List.set_cons_zero, *]; all_goals rfl), ⟨a0, c0, rfl⟩, hE, trivial⟩
          refine AllF.step (m := 6) (j := 19) rfl ?_ ?_
          · intro D f w1 hD hB hR hp hcl hX
            have e14 : f 65 = .bool true := (hpAt hp 14 (by kernel_rfl)).2
            obtain ⟨a0, c0, e17⟩ := (hpAt hp 17 (by kernel_rfl)).2
            replace e17 : f 68 = _ := e17
            have HB := Lib.hid hB
            clear hX hcl hB hD hR hp
            refine WpO.guarded 14 65 true rfl rfl rfl (by kernel_rfl) (by kernel_rfl) e14 (fun K hK => ?_)
            simp only [putAll, Act.put, List.setIfInBounds_toArray, List.set_cons_succ, List.set_cons_zero]
            go_simp
            exact hK _ _ ⟨.int .i64 0, (by show _ = Act.put _ (some 69) _; simp only [putAll, Act.put, List.setIfInBounds_toArray, List.set_cons_succ, List.set_cons_zero, *]; all_goals rfl), rfl, Below.refl _ _, trivial⟩
          refine AllF.step (m := 5) (j := 20) rfl ?_ ?_
          · intro D f w1 hD hB hR hp hcl hX
            have e14 : f 65 = .bool true := (hpAt hp 14 (by kernel_rfl)).2
            have e18 : f 69 = .int .i64 0 := (hpAt hp 18 (by kernel_rfl)).2
            have HB := Lib.hid hB
            clear hX hcl hB hD hR hp
            refine WpO.guarded 14 65 true rfl rfl rfl (by kernel_rfl) (by kernel_rfl) e14 (fun K hK => ?_)
            simp only [putAll, Act.put, List.setIfInBounds_toArray, List.set_cons_succ, List.set_cons_zero]
            go_simp
            exact hK _ _ ⟨.bool true, (by show _ = Act.put _ (some 70) _; simp only [putAll, Act.put, List.setIfInBounds_toArray, List.set_cons_succ, List.set_cons_zero, *]; all_goals rfl), rfl, Below.refl _ _, trivial⟩
          refine AllF.step (m := 4) (j := 21) rfl ?_ ?_
          · intro D f w1 hD hB hR hp hcl hX
            have e14 : f 65 = .bool true := (hpAt hp 14 (by kernel_rfl)).2
            have e19 : f 70 = .bool true := (hpAt hp 19 (by kernel_rfl)).2
            have HB := Lib.hid hB
            clear hX hcl hB hD hR hp
            refine WpO.step rfl (fun K hK => ?_)
            simp only [putAll, Act.put, List.setIfInBounds_toArray, List.set_cons_succ, List.set_cons_zero]
            go_simp
            exact hK _ _ ⟨.bool true, (by show _ = Act.put _ (some 71) _; simp only [putAll, Act.put, List.setIfInBounds_toArray, List.set_cons_succ, List.set_cons_zero, *]; all_goals rfl), rfl, Below.refl _ _, trivial⟩
          refine AllF.step (m := 3) (j := 22) rfl ?_ ?_
          · intro D f w1 hD hB hR hp hcl hX
            have e20 : f 71 = .bool true := (hpAt hp 20 (by kernel_rfl)).2
            have HB := Lib.hid hB
            clear hX hcl hB hD hR hp
            refine WpO.step rfl (fun K hK => ?_)
            simp only [putAll, Act.put, List.setIfInBounds_toArray, List.set_cons_succ, List.set_cons_zero]
            go_simp
            exact hK _ _ ⟨.bool true, (by show _ = Act.put _ (some 72) _; simp only [putAll, Act.put, List.setIfInBounds_toArray, List.set_cons_succ, List.set_cons_zero, *]; all_goals rfl), rfl, Below.refl _ _, trivial⟩
          refine AllF.step (m := 2) (j := 23) rfl ?_ ?_
          · intro D f w1 hD hB hR hp hcl hX
            have e21 : f 72 = .bool true := (hpAt hp 21 (by kernel_rfl)).2
            have HB := Lib.hid hB
            clear hX hcl hB hD hR hp
            refine WpO.guarded 21 72 true rfl rfl rfl (by kernel_rfl) (by kernel_rfl) e21 (fun K hK => ?_)
            simp only [putAll, Act.put, List.setIfInBounds_toArray, List.set_cons_succ, List.set_cons_zero]
            go_simp
            refine (awake_v w1).mono ?_; rintro e w2 ⟨rfl, b2⟩
            go_simp
            have hE : Below W9.heap.size w1 w2 := b2.mono HB.out.size
            exact hK _ _ ⟨.bool true, (by show _ = Act.put _ (some 73) _; simp only [putAll, Act.put, List.setIfInBounds_toArray, List.set_cons_succ, List.set_cons_zero, *]; all_goals rfl), rfl, hE, trivial⟩
          refine AllF.step (m := 1) (j := 24) rfl ?_ ?_
          · intro D f w1 hD hB hR hp hcl hX
            have e21 : f 72 = .bool true := (hpAt hp 21 (by kernel_rfl)).2
            have e22 : f 73 = .bool true := (hpAt hp 22 (by kernel_rfl)).2
            have HB := Lib.hid hB
            clear hX hcl hB hD hR hp
            refine WpO.step rfl (fun K hK => ?_)
            simp only [putAll, Act.put, List.setIfInBounds_toArray, List.set_cons_succ, List.set_cons_zero]
            go_simp
            exact hK _ _ ⟨.bool true, (by show _ = Act.put _ (some 74) _; simp only [putAll, Act.put, List.setIfInBounds_toArray, List.set_cons_succ, List.set_cons_zero, *]; all_goals rfl), rfl, Below.refl _ _, trivial⟩
          refine AllF.step (m := 0) (j := 25) rfl ?_ ?_
          · intro D f w1 hD hB hR hp hcl hX
            have e23 : f 74 = .bool true := (hpAt hp 23 (by kernel_rfl)).2
            have HB := Lib.hid hB
            clear hX hcl hB hD hR hp
            refine WpO.step rfl (fun K hK => ?_)
            simp only [putAll, Act.put, List.setIfInBounds_toArray, List.set_cons_succ, List.set_cons_zero]
            go_simp
            exact hK _ _ ⟨.bool true, (by show _ = Act.put _ (some 2) _; simp only [putAll, Act.put, List.setIfInBounds_toArray, List.set_cons_succ, List.set_cons_zero, *]; all_goals rfl), rfl, Below.refl _ _, trivial⟩
          exact trivial
        · intro D f w1 hD hB hR hX
          have e2 : f 2 = .bool true := hR 24 (by decide)
          have HBF := Lib.hid (keep HB9.out hB)
          clear hD hB hR hX
          simp only [putAll, Act.put, List.setIfInBounds_toArray, List.set_cons_succ, List.set_cons_zero, e2]
          go_wp2_with fail
          go_ret
          exact ⟨rfl, HBF.out⟩
end Go.Proofs.Ytpoipkjchnopbaa.P9
