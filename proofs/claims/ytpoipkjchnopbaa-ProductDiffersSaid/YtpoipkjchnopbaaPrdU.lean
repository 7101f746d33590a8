import Derived.Test.YtpoipkjchnopbaaPrdT
/- Layer 9: the reference's Differences. -/
namespace Go.Proofs.Ytpoipkjchnopbaa.P9
open Go.RowKit Go.Sort C6

noncomputable def odd (l o : List Atr) : List Atr := l.filter (fun x => !inB x o)
theorem odd_in {l o : List Atr} {x : Atr} (h : x ∈ o) : odd (l ++ [x]) o = odd l o := by simp [odd, inB_pos h]
theorem odd_out {l o : List Atr} {x : Atr} (h : x ∉ o) : odd (l ++ [x]) o = odd l o ++ [x] := by simp [odd, inB_neg h]
theorem odd_le (l o : List Atr) : (odd l o).length ≤ l.length := List.length_filter_le _ _
theorem odd_names (l o : List Atr) : encL (nms l o) = (odd l o).map nmL := by
  simp [encL, nms, odd, nmL, Function.comp_def]
theorem dnm_dd (l o : List Atr) : dnm l o = dd ((isort (odd l o ++ odd o l)).map nmL) := by
  unfold dnm
  rw [compact_dd, names_sorted (odd l o ++ odd o l) ((odd l o ++ odd o l).map nmL) (List.Perm.refl _)]
  congr 2
  rw [List.map_append, ← odd_names, ← odd_names]
  simp [encL]
theorem one_cellD (w : World) (o : Obj) (nq : Nat) (u : Value) (t : TypeId) : ∀ j x, [u][j]? = some x → (((w.alloc o).drewN nq).alloc (.cells #[u] t)).cell? ((⟨w.heap.size + 1, 0, none⟩ : Addr).add j) = some x := by
  have := C6.one_cell ((w.alloc o).drewN nq) u t
  have e : ((w.alloc o).drewN nq).heap.size = w.heap.size + 1 := World.size_alloc _ _
  rwa [e] at this
theorem atv_snoc (l : List Atr) (x1 x2 : ByteArray) : atv (l ++ [(x1, x2)]) = atv l ++ [.string x1, .string x2] := by rw [atv_one]

set_option maxHeartbeats 16000000 in
set_option maxRecDepth 100000 in
theorem rDifferences_v (p p' : Pd) (ao bo : Option Addr) (ca cb : Nat) (l o : List Atr) (w : World) (h : RdA w ao ca l) (k : RdA w bo cb o) (hlo : l.length + o.length ≤ 30) :
    Calls Try.prog 17 #[.agg #[.string p.id, .string p.co, .string p.br, .int .i64 p.d, .int .i64 p.c, .int .i64 p.a, .slice ao l.length ca], .agg #[.string p'.id, .string p'.co, .string p'.br, .int .i64 p'.d, .int .i64 p'.c, .int .i64 p'.a, .slice bo o.length cb]] w fun e w' => ∃ (a : Option Addr) (q c : Nat), e = .returned (.slice a q c) ∧ q = (dnm l o).length ∧ w'.ownsRow w.heap.size 9 1 (.slice a q c) q ((dnm l o).map encStr) ∧ Below w.heap.size w w' := by
  obtain ⟨i0, hi, hz0, hz1, hz2⟩ := info_parts infoAtr
  obtain ⟨n, hn⟩ : ∃ n, n = l.length := ⟨_, rfl⟩
  obtain ⟨m, hm⟩ : ∃ m, m = o.length := ⟨_, rfl⟩
  obtain ⟨W1, hW1⟩ : ∃ W, W = w.alloc (.cells #[.string p.id, .string p.co, .string p.br, .int .i64 p.d, .int .i64 p.c, .int .i64 p.a, .slice ao n ca] 26) := ⟨_, rfl⟩
  have P1 : PB W1 w.heap.size p (.slice ao n ca) := by rw [hW1]; exact PB.new _ _ _
  have b1 : Below w.heap.size w W1 := by rw [hW1]; exact below_new _ _
  have s1 : W1.heap.size = w.heap.size + 1 := by rw [hW1]; exact World.size_alloc _ _
  obtain ⟨W2, hW2⟩ : ∃ W, W = W1.alloc (.cells #[.string p'.id, .string p'.co, .string p'.br, .int .i64 p'.d, .int .i64 p'.c, .int .i64 p'.a, .slice bo m cb] 26) := ⟨_, rfl⟩
  have P2 : PB W2 w.heap.size p (.slice ao n ca) := by rw [hW2]; exact P1.below (below_new _ _)
  have Q2 : PB W2 (w.heap.size + 1) p' (.slice bo m cb) := by rw [hW2, ← s1]; exact PB.new _ _ _
  have b2 : Below w.heap.size w W2 := by rw [hW2]; exact keep b1 (below_new _ _)
  have s2 : W2.heap.size = w.heap.size + 2 := by rw [hW2, World.size_alloc, s1]
  have HP2 := Lib.hid P2
  have HQ2 := Lib.hid Q2
  have HS2 := Lib.hid s2
  have HR2 := Lib.hid (h.below b2)
  have HK2 := Lib.hid (k.below b2)
  have HB2 := Lib.hid b2
  have HN := Lib.hid hn
  have HM := Lib.hid hm
  have HLE := Lib.hid hlo
  obtain ⟨ha1, ha2⟩ : n ≤ ca ∧ ca ≤ 9223372036854775807 := by have := h.1; have := h.2.1; omega
  obtain ⟨hb1, hb2⟩ : m ≤ cb ∧ cb ≤ 9223372036854775807 := by have := k.1; have := k.2.1; omega
  have hn1 : n ≤ 30 := by omega
  have hm1 : m ≤ 30 := by omega
  have H1 : Hid (∀ (W : World) (x1 x2 : ByteArray), Below W2.heap.size W2 W → Calls Try.prog 31 #[.slice bo m cb, .agg #[.string x1, .string x2]] W fun e w' => e = .returned (.bool (inB (x1, x2) o)) ∧ Below W.heap.size W w') := fun W x1 x2 hb => by
    rw [hm]; exact holds_v bo cb o x1 x2 W ((k.below b2).below hb) (by omega)
  have H2 : Hid (∀ (W : World) (x1 x2 : ByteArray), Below W2.heap.size W2 W → Calls Try.prog 31 #[.slice ao n ca, .agg #[.string x1, .string x2]] W fun e w' => e = .returned (.bool (inB (x1, x2) l)) ∧ Below W.heap.size W w') := fun W x1 x2 hb => by
    rw [hn]; exact holds_v ao ca l x1 x2 W ((h.below b2).below hb) (by omega)
  have k6 := P2.cells.2.2.2.2.2.2
  have q6 := Q2.cells.2.2.2.2.2.2
  rw [← hn, ← hm]
  clear h k hlo hn hm P1 b1 s1 P2 Q2 b2
  go_enter Try.func17, Try.ntmps17
  go_upto_region 1 with fail
  rw [← hW1, ← hW2]
  clear hW1 hW2 s2
  go_wp2_with fail
  go_loopw [16, 5] (fun sc s5 wr => ∃ (i q : Nat) (a : Option Addr) (c : Nat), i ≤ n ∧ sc = .int .i64 (i : Int) ∧ s5 = .slice a q c ∧ q ≤ 30 ∧ Hid (q = ( (odd (l.take i) o)).length) ∧ Hid (wr.ownsRow (w.heap.size + 2) 42 2 (.slice a q c) q (atv ( (odd (l.take i) o)))) ∧ Hid (Below W2.heap.size W2 wr)) (fun sc _ _ => n - (intOf sc).toNat)
  case atStart => exact ⟨0, 0, none, 0, by omega, rfl, rfl, by omega, by unfold Hid; simp [odd], World.ownsRow_nil _ _ _ _, Below.refl _ _⟩
  case round =>
    obtain ⟨i, q, a, c, hin, rfl, rfl, hq30, hq, hown, hbl⟩ := hrel
    by_cases hlt : i < n
    · have hltI : (i : Int) < (n : Int) := by omega
      obtain ⟨b, o', rfl, hcs⟩ := (HR2.out.below hbl.out).at (i := i) (by have := HN.out; omega)
      obtain ⟨c0, c1⟩ := hcs i (by have := HN.out; omega)
      have HT : Hid (l.take (i + 1) = l.take i ++ [l.getD i e2]) := take_snoc (by have := HN.out; omega)
      obtain ⟨x, hx⟩ : ∃ x, x = l.getD i e2 := ⟨_, rfl⟩
      rw [← hx] at c0 c1 HT
      obtain ⟨x1, x2⟩ := x
      have hic : i < ca := by omega
      have k6 := (HP2.out.below hbl.out).cells.2.2.2.2.2.2
      have q6 := (HQ2.out.below hbl.out).cells.2.2.2.2.2.2
      have hwl : w.heap.size + 2 ≤ wr.heap.size := by rw [← HS2.out]; exact hbl.out.size
      have hwl0 : w.heap.size < wr.heap.size := by omega
      have hwl1 : w.heap.size + 1 < wr.heap.size := by omega
      obtain ⟨W4, hW4⟩ : ∃ W, W = wr.alloc (.cells #[.string x1, .string x2] 42) := ⟨_, rfl⟩
      have n4 : Below wr.heap.size wr W4 := by rw [hW4]; exact below_new _ _
      have x4 : W4.heap[wr.heap.size]? = some (.cells #[.string x1, .string x2] 42 (0, 0)) := by rw [hW4]; exact heap_alloc_new _ _
      have HC := H1.out W4 x1 x2 (keep hbl.out n4)
      have s4 : W4.heap.size = wr.heap.size + 1 := by rw [hW4]; exact World.size_alloc _ _
      have B4 := Lib.hid (keep hbl.out n4)
      have O4 := Lib.hid (own_below hown.out n4)
      have X4 := Lib.hid x4
      clear hx hcs n4 x4 hown hbl
      by_cases hin : (x1, x2) ∈ o
      · rw [inB_pos hin] at HC
        have HC2 := Lib.hid HC
        have HQ : Hid (odd (l.take (i + 1)) o = odd (l.take i) o) := by unfold Hid; rw [HT.out, odd_in hin]
        clear hin HT HC
        go_wp2_with fail
        rw [← hW4]
        refine HC2.out.mono ?_; rintro e w5 ⟨rfl, b5⟩
        have B5 := Lib.hid (keep B4.out b5)
        have O5 : Hid (w5.ownsRow (w.heap.size + 2) 42 2 (.slice a q c) q (atv ( (odd (l.take (i + 1)) o)))) := by unfold Hid; rw [HQ.out]; exact own_below O4.out b5
        have Q5 : Hid (q = ( (odd (l.take (i + 1)) o)).length) := by unfold Hid; rw [HQ.out]; exact hq.out
        clear b5 hq HQ hW4
        go_wp2_with fail
        go_roundw
        case rel => exact ⟨i + 1, q, a, c, by omega, by go_num, rfl, hq30, Q5, O5, B5⟩
        case measure => first | (simp [intOf]; done) | (simp [intOf]; omega)
      · rw [inB_neg hin] at HC
        have HC2 := Lib.hid HC
        have HQ : Hid ( (odd (l.take (i + 1)) o) = ( (odd (l.take i) o)) ++ [(x1, x2)]) := by unfold Hid; rw [HT.out, odd_out hin]
        have HQ30 : Hid (( (odd (l.take (i + 1)) o)).length ≤ 30) := by
          unfold Hid
          have h1 := odd_le (l.take (i + 1)) o
          rw [List.length_take] at h1
          have := HLE.out
          omega
        clear hin HT HC
        go_wp2_with fail
        rw [← hW4]
        refine HC2.out.mono ?_; rintro e w5 ⟨rfl, b5⟩
        have B5 := Lib.hid (keep B4.out b5)
        have O5 := Lib.hid (own_below O4.out b5)
        have x5 : w5.heap[wr.heap.size]? = some (.cells #[.string x1, .string x2] 42 (0, 0)) := (b5.block _ (by omega)).trans X4.out
        have p0 : w5.cell? ⟨wr.heap.size, 0, none⟩ = some (.string x1) := by simp [World.cell?, x5]
        have p1 : w5.cell? ⟨wr.heap.size, 1, none⟩ = some (.string x2) := by simp [World.cell?, x5]
        have hw5 : w.heap.size + 2 ≤ w5.heap.size := by have := B5.out.size; rw [HS2.out] at this; exact this
        have OL : Hid ((w5.alloc (.cells #[.string x1, .string x2] 42)).ownsRow (w.heap.size + 2) 42 2 (.slice (some ⟨w5.heap.size, 0, none⟩) 1 1) 1 [.string x1, .string x2]) := World.ownsRow_lit w5 #[.string x1, .string x2] 1 hw5 (by decide) rfl
        have NW : Hid (∀ j u, ([.string x1, .string x2] : List Value)[j]? = some u → (w5.alloc (.cells #[.string x1, .string x2] 42)).cell? ((⟨w5.heap.size, 0, none⟩ : Addr).add j) = some u) := OL.out.cells rfl
        have OA : Hid ((w5.alloc (.cells #[.string x1, .string x2] 42)).ownsRow (w.heap.size + 2) 42 2 (.slice a q c) q (atv ( (odd (l.take i) o)))) := O5.out.alloc _
        have BA : Hid (Below W2.heap.size W2 (w5.alloc (.cells #[.string x1, .string x2] 42))) := keep B5.out (below_new _ _)
        have HROWS : Hid (∀ k, Value.ownBlock (.slice a q c) = some k → W2.heap.size ≤ k) := fun k e => by rw [HS2.out]; exact (O5.out.lt k e).1
        clear b5 x5 hW4
        go_wp2_with (at_builtin; refine wpList_append_own _ rfl _ _ 24 rfl (w.heap.size + 2) 42 i0 (.agg #[.string ByteArray.empty, .string ByteArray.empty]) 2 32 Try.underlying24 hi hz0 hz1 hz2 rfl (by decide) _ q _ rfl OA.out ⟨w5.heap.size, 0, none⟩ 1 1 [.string x1, .string x2] rfl rfl NW.out (atv_one' [(x1, x2)]) (by unfold maxLen; omega) (by omega) (by simp; omega) ?_; intro v6 w6 hown6 hgr6 _; obtain ⟨a6, c6, rfl⟩ := of_row_n hown6)
        have B6 : Hid (Below W2.heap.size W2 w6) := BA.out.grown hgr6 BA.out.size (fun k e => HROWS.out k e)
        have O6 : Hid (w6.ownsRow (w.heap.size + 2) 42 2 (.slice a6 (q + 1) c6) (q + 1) (atv ( (odd (l.take (i + 1)) o)))) := by unfold Hid; rw [HQ.out, atv_snoc]; exact hown6
        have Q6 : Hid (q + 1 = ( (odd (l.take (i + 1)) o)).length) := by unfold Hid; rw [HQ.out, List.length_append, ← hq.out]; rfl
        have hq31 : q + 1 ≤ 30 := by have := Q6.out; have := HQ30.out; omega
        clear hown6 hgr6 hq HQ HQ30 p0 p1
        go_wp2_with fail
        go_roundw
        case rel => exact ⟨i + 1, q + 1, a6, c6, by omega, by go_num, rfl, hq31, Q6, O6, B6⟩
        case measure => first | (simp [intOf]; done) | (simp [intOf]; omega)
    · obtain rfl : i = n := by omega
      have hni : ¬ (i : Int) < (i : Int) := by omega
      have O := hown.out
      have Q := hq.out
      rw [HN.out, List.take_length] at O Q
      have HO1 := Lib.hid O
      have HQ1 := Lib.hid Q
      have HB1 := Lib.hid hbl
      clear O Q hown hq hbl
      have k6 := (HP2.out.below HB1.out.out).cells.2.2.2.2.2.2
      have q6 := (HQ2.out.below HB1.out.out).cells.2.2.2.2.2.2
      go_wp2_with fail
      go_loopw [33, 5] (fun sc s5 wr => ∃ (i q : Nat) (a : Option Addr) (c : Nat), i ≤ m ∧ sc = .int .i64 (i : Int) ∧ s5 = .slice a q c ∧ q ≤ 30 ∧ Hid (q = (odd l o ++ (odd (o.take i) l)).length) ∧ Hid (wr.ownsRow (w.heap.size + 2) 42 2 (.slice a q c) q (atv (odd l o ++ (odd (o.take i) l)))) ∧ Hid (Below W2.heap.size W2 wr)) (fun sc _ _ => m - (intOf sc).toNat)
      case atStart => exact ⟨0, q, a, c, by omega, rfl, rfl, hq30, by unfold Hid; rw [List.take_zero]; simpa [odd] using HQ1.out, by unfold Hid; rw [List.take_zero]; simpa [odd] using HO1.out, HB1.out⟩
      case round =>
        obtain ⟨i, q, a, c, hin, rfl, rfl, hq30, hq, hown, hbl⟩ := hrel
        by_cases hlt : i < m
        · have hltI : (i : Int) < (m : Int) := by omega
          obtain ⟨b, o', rfl, hcs⟩ := (HK2.out.below hbl.out).at (i := i) (by have := HM.out; omega)
          obtain ⟨c0, c1⟩ := hcs i (by have := HM.out; omega)
          have HT : Hid (o.take (i + 1) = o.take i ++ [o.getD i e2]) := take_snoc (by have := HM.out; omega)
          obtain ⟨x, hx⟩ : ∃ x, x = o.getD i e2 := ⟨_, rfl⟩
          rw [← hx] at c0 c1 HT
          obtain ⟨x1, x2⟩ := x
          have hic : i < cb := by omega
          have k6 := (HP2.out.below hbl.out).cells.2.2.2.2.2.2
          have q6 := (HQ2.out.below hbl.out).cells.2.2.2.2.2.2
          have hwl : w.heap.size + 2 ≤ wr.heap.size := by rw [← HS2.out]; exact hbl.out.size
          have hwl0 : w.heap.size < wr.heap.size := by omega
          have hwl1 : w.heap.size + 1 < wr.heap.size := by omega
          obtain ⟨W4, hW4⟩ : ∃ W, W = wr.alloc (.cells #[.string x1, .string x2] 42) := ⟨_, rfl⟩
          have n4 : Below wr.heap.size wr W4 := by rw [hW4]; exact below_new _ _
          have x4 : W4.heap[wr.heap.size]? = some (.cells #[.string x1, .string x2] 42 (0, 0)) := by rw [hW4]; exact heap_alloc_new _ _
          have HC := H2.out W4 x1 x2 (keep hbl.out n4)
          have s4 : W4.heap.size = wr.heap.size + 1 := by rw [hW4]; exact World.size_alloc _ _
          have B4 := Lib.hid (keep hbl.out n4)
          have O4 := Lib.hid (own_below hown.out n4)
          have X4 := Lib.hid x4
          clear hx hcs n4 x4 hown hbl
          by_cases hin : (x1, x2) ∈ l
          · rw [inB_pos hin] at HC
            have HC2 := Lib.hid HC
            have HQ : Hid (odd (o.take (i + 1)) l = odd (o.take i) l) := by unfold Hid; rw [HT.out, odd_in hin]
            clear hin HT HC
            go_wp2_with fail
            rw [← hW4]
            refine HC2.out.mono ?_; rintro e w5 ⟨rfl, b5⟩
            have B5 := Lib.hid (keep B4.out b5)
            have O5 : Hid (w5.ownsRow (w.heap.size + 2) 42 2 (.slice a q c) q (atv (odd l o ++ (odd (o.take (i + 1)) l)))) := by unfold Hid; rw [HQ.out]; exact own_below O4.out b5
            have Q5 : Hid (q = (odd l o ++ (odd (o.take (i + 1)) l)).length) := by unfold Hid; rw [HQ.out]; exact hq.out
            clear b5 hq HQ hW4
            go_wp2_with fail
            go_roundw
            case rel => exact ⟨i + 1, q, a, c, by omega, by go_num, rfl, hq30, Q5, O5, B5⟩
            case measure => first | (simp [intOf]; done) | (simp [intOf]; omega)
          · rw [inB_neg hin] at HC
            have HC2 := Lib.hid HC
            have HQ : Hid (odd l o ++ (odd (o.take (i + 1)) l) = (odd l o ++ (odd (o.take i) l)) ++ [(x1, x2)]) := by unfold Hid; rw [HT.out, odd_out hin, List.append_assoc]
            have HQ30 : Hid ((odd l o ++ (odd (o.take (i + 1)) l)).length ≤ 30) := by
              unfold Hid
              have h1 := odd_le (o.take (i + 1)) l
              rw [List.length_take] at h1
              have := HLE.out
              rw [List.length_append]; have := odd_le l o; omega
            clear hin HT HC
            go_wp2_with fail
            rw [← hW4]
            refine HC2.out.mono ?_; rintro e w5 ⟨rfl, b5⟩
            have B5 := Lib.hid (keep B4.out b5)
            have O5 := Lib.hid (own_below O4.out b5)
            have x5 : w5.heap[wr.heap.size]? = some (.cells #[.string x1, .string x2] 42 (0, 0)) := (b5.block _ (by omega)).trans X4.out
            have p0 : w5.cell? ⟨wr.heap.size, 0, none⟩ = some (.string x1) := by simp [World.cell?, x5]
            have p1 : w5.cell? ⟨wr.heap.size, 1, none⟩ = some (.string x2) := by simp [World.cell?, x5]
            have hw5 : w.heap.size + 2 ≤ w5.heap.size := by have := B5.out.size; rw [HS2.out] at this; exact this
            have OL : Hid ((w5.alloc (.cells #[.string x1, .string x2] 42)).ownsRow (w.heap.size + 2) 42 2 (.slice (some ⟨w5.heap.size, 0, none⟩) 1 1) 1 [.string x1, .string x2]) := World.ownsRow_lit w5 #[.string x1, .string x2] 1 hw5 (by decide) rfl
            have NW : Hid (∀ j u, ([.string x1, .string x2] : List Value)[j]? = some u → (w5.alloc (.cells #[.string x1, .string x2] 42)).cell? ((⟨w5.heap.size, 0, none⟩ : Addr).add j) = some u) := OL.out.cells rfl
            have OA : Hid ((w5.alloc (.cells #[.string x1, .string x2] 42)).ownsRow (w.heap.size + 2) 42 2 (.slice a q c) q (atv (odd l o ++ (odd (o.take i) l)))) := O5.out.alloc _
            have BA : Hid (Below W2.heap.size W2 (w5.alloc (.cells #[.string x1, .string x2] 42))) := keep B5.out (below_new _ _)
            have HROWS : Hid (∀ k, Value.ownBlock (.slice a q c) = some k → W2.heap.size ≤ k) := fun k e => by rw [HS2.out]; exact (O5.out.lt k e).1
            clear b5 x5 hW4
            go_wp2_with (at_builtin; refine wpList_append_own _ rfl _ _ 24 rfl (w.heap.size + 2) 42 i0 (.agg #[.string ByteArray.empty, .string ByteArray.empty]) 2 32 Try.underlying24 hi hz0 hz1 hz2 rfl (by decide) _ q _ rfl OA.out ⟨w5.heap.size, 0, none⟩ 1 1 [.string x1, .string x2] rfl rfl NW.out (atv_one' [(x1, x2)]) (by unfold maxLen; omega) (by omega) (by simp; omega) ?_; intro v6 w6 hown6 hgr6 _; obtain ⟨a6, c6, rfl⟩ := of_row_n hown6)
            have B6 : Hid (Below W2.heap.size W2 w6) := BA.out.grown hgr6 BA.out.size (fun k e => HROWS.out k e)
            have O6 : Hid (w6.ownsRow (w.heap.size + 2) 42 2 (.slice a6 (q + 1) c6) (q + 1) (atv (odd l o ++ (odd (o.take (i + 1)) l)))) := by unfold Hid; rw [HQ.out, atv_snoc]; exact hown6
            have Q6 : Hid (q + 1 = (odd l o ++ (odd (o.take (i + 1)) l)).length) := by unfold Hid; rw [HQ.out, List.length_append, ← hq.out]; rfl
            have hq31 : q + 1 ≤ 30 := by have := Q6.out; have := HQ30.out; omega
            clear hown6 hgr6 hq HQ HQ30 p0 p1
            go_wp2_with fail
            go_roundw
            case rel => exact ⟨i + 1, q + 1, a6, c6, by omega, by go_num, rfl, hq31, Q6, O6, B6⟩
            case measure => first | (simp [intOf]; done) | (simp [intOf]; omega)
        · obtain rfl : i = m := by omega
          have hni : ¬ (i : Int) < (i : Int) := by omega
          have O := hown.out
          have Q := hq.out
          rw [HM.out, List.take_length] at O Q
          have HO1 := Lib.hid O
          have HQ1 := Lib.hid Q
          have HB1 := Lib.hid hbl
          clear O Q hown hq hbl
          have hq1 := HQ1.out
          have SV := Sorted_v a c (odd l o ++ odd o l) wr (by
            obtain ⟨ao', cp', e', r', _⟩ := RdA.of_row HO1.out
            injection e' with e1 _ e3
            rw [e1, e3]; exact r') (by rw [← hq1]; exact hq30)
          rw [← hq1] at SV
          have HSV := Lib.hid SV
          have HBW := Lib.hid (HB2.out.trans (HB1.out.out.mono (by rw [HS2.out]; omega)))
          clear SV hq1
          go_wp2_with fail
          refine HSV.out.mono ?_; rintro e w3 ⟨a3, c3, rfl, hown3, hb3⟩
          obtain ⟨S, hS⟩ : ∃ S, S = isort (odd l o ++ odd o l) := ⟨_, rfl⟩
          rw [← hS] at hown3
          have HSL : Hid (S.length = q) := by unfold Hid; rw [hS, isort_length]; exact HQ1.out.symm
          have HDN : Hid (dnm l o = dd (S.map nmL)) := by unfold Hid; rw [dnm_dd, hS]
          have R3 : RdA w3 a3 c3 S := by
            obtain ⟨ao', cp', e', r', _⟩ := RdA.of_row hown3
            injection e' with e1 _ e3
            rw [e1, e3]; exact r'
          have HR3 := Lib.hid R3
          have HB3 := Lib.hid (keep HBW.out hb3)
          obtain ⟨hc31, hc32⟩ : q ≤ c3 ∧ c3 ≤ 9223372036854775807 := by have := R3.1; have := R3.2.1; have := HSL.out; omega
          obtain ⟨j0, hj0, hy0, hy1, hy2⟩ := info_parts infoStr
          clear hS hown3 hb3 R3 HO1 HQ1 HB1 HBW k6 q6
          go_wp2_with fail
          go_loopw [50, 10] (fun s50 s10 wx => ∃ (j r : Nat) (a : Option Addr) (c : Nat), j ≤ q ∧ s50 = .int .i64 (j : Int) ∧ s10 = .slice a r c ∧ r ≤ j ∧ Hid (r = (dd ((S.map nmL).take j)).length) ∧ Hid (wx.ownsRow w3.heap.size 9 1 (.slice a r c) r ((dd ((S.map nmL).take j)).map encStr)) ∧ Hid (Below w3.heap.size w3 wx)) (fun s50 _ _ => q - (intOf s50).toNat)
          case atStart => exact ⟨0, 0, none, 0, by omega, rfl, rfl, by omega, by unfold Hid; rfl, World.ownsRow_nil _ _ _ _, Below.refl _ _⟩
          case round =>
            obtain ⟨j, r, a, c, hjq, rfl, rfl, hrj, hr, hown, hbl⟩ := hrel
            by_cases hlt : j < q
            · have hltI : (j : Int) < (q : Int) := by omega
              obtain ⟨b, o', rfl, hcs⟩ := (HR3.out.below hbl.out).at (i := j) (by have := HSL.out; omega)
              obtain ⟨c0, c1⟩ := hcs j (by have := HSL.out; omega)
              have HT : Hid (dd ((S.map nmL).take (j + 1)) = ddS (dd ((S.map nmL).take j)) (nmL (S.getD j e2))) := by
                unfold Hid
                have hjl : j < S.length := by have := HSL.out; omega
                rw [dd_take _ j (by rw [List.length_map]; exact hjl)]
                congr 1
                simp [List.getD, hjl]
              obtain ⟨x, hx⟩ : ∃ x, x = S.getD j e2 := ⟨_, rfl⟩
              rw [← hx] at c0 c1 HT
              obtain ⟨x1, x2⟩ := x
              have hic : j < c3 := by omega
              obtain ⟨T, hTT⟩ : ∃ T, T = dd ((S.map nmL).take j) := ⟨_, rfl⟩
              rw [← hTT] at HT hr hown
              have hw3 : w3.heap.size ≤ wr.heap.size := hbl.out.size
              have O4 : Hid ((wr.alloc (.cells #[.string x1, .string x2] 42)).ownsRow w3.heap.size 9 1 (.slice a r c) r (T.map encStr)) := hown.out.alloc _
              have B4 : Hid (Below w3.heap.size w3 (wr.alloc (.cells #[.string x1, .string x2] 42))) := keep hbl.out (below_new _ _)
              have HROWS : Hid (∀ k, Value.ownBlock (.slice a r c) = some k → w3.heap.size ≤ k) := fun k e => (hown.out.lt k e).1
              have hcc : r ≤ c ∧ c ≤ 9223372036854775807 := by
                rcases hown.out.2 with ⟨e, h0⟩ | ⟨g, cap', cur, e, _, _, hnc, hcm, _, _⟩
                · cases e; omega
                · cases e; unfold maxLen at hcm; omega
              obtain ⟨hcc1, hcc2⟩ := hcc
              have APP : Hid (∀ nq, (((wr.alloc (.cells #[.string x1, .string x2] 42)).drewN nq).alloc (.cells #[.string x1] 9)).ownsRow w3.heap.size 9 1 (.slice a r c) r (T.map encStr) ∧ Below w3.heap.size w3 (((wr.alloc (.cells #[.string x1, .string x2] 42)).drewN nq).alloc (.cells #[.string x1] 9))) := fun nq => ⟨World.ownsRow.alloc (show ((wr.alloc (.cells #[.string x1, .string x2] 42)).drewN nq).ownsRow w3.heap.size 9 1 (.slice a r c) r (T.map encStr) from O4.out) _, keep (drewN_below' B4.out nq) (below_new _ _)⟩
              have ENC : Hid (encStr (nmL (x1, x2)) = .string x1) := rfl
              have O0 := Lib.hid hown.out
              clear hx hcs hTT hown hbl
              have hcase : (r = 0 ∧ ddS T (nmL (x1, x2)) = T ++ [nmL (x1, x2)]) ∨ (∃ (s : Nat) (g : Nat) (L : List UInt8), r = s + 1 ∧ a = some ⟨g, 0, none⟩ ∧ g < wr.heap.size ∧ wr.cell? ⟨g, s, none⟩ = some (.string ⟨L.toArray⟩) ∧ ((L = nmL (x1, x2) ∧ ddS T (nmL (x1, x2)) = T) ∨ (L ≠ nmL (x1, x2) ∧ ddS T (nmL (x1, x2)) = T ++ [nmL (x1, x2)]))) := by
                cases hr0 : r with
                | zero =>
                  refine .inl ⟨rfl, ?_⟩
                  have : T = [] := List.eq_nil_of_length_eq_zero (by have := hr.out; omega)
                  subst this
                  rfl
                | succ s =>
                  right
                  have hTl : T.length = s + 1 := by have := hr.out; omega
                  obtain ⟨g, ha, _⟩ : ∃ g, a = some ⟨g, 0, none⟩ ∧ True := by
                    rcases O4.out.2 with ⟨e, h0⟩ | ⟨g, cap', cur, e, _⟩
                    · omega
                    · cases e; exact ⟨g, rfl, trivial⟩
                  subst ha
                  have hsl : s < T.length := by omega
                  have hcell := O0.out.cellAt s (by omega)
                  have hg : (T.map encStr)[s]? = some (encStr T[s]) := by simp [hsl]
                  rw [hg] at hcell
                  have hlast : T.getLast? = some T[s] := by rw [List.getLast?_eq_getElem?, show T.length - 1 = s by omega, List.getElem?_eq_getElem hsl]
                  refine ⟨s, g, T[s], rfl, rfl, (O0.out.lt g rfl).2, hcell, ?_⟩
                  by_cases e : T[s] = nmL (x1, x2)
                  · exact .inl ⟨e, by unfold ddS; rw [if_pos (by rw [hlast, e])]⟩
                  · exact .inr ⟨e, by unfold ddS; rw [if_neg (by rw [hlast]; intro h; exact e (Option.some.inj h))]⟩
              have fin : Hid (ddS T (nmL (x1, x2)) = T ++ [nmL (x1, x2)] → ∀ v5 (w5 : World) (c5 : Nat) (a5 : Option Addr), w5.ownsRow w3.heap.size 9 1 (.slice a5 (r + 1) c5) (r + 1) (T.map encStr ++ [.string x1]) → v5 = Value.slice a5 (r + 1) c5 → (r + 1 = (dd ((S.map nmL).take (j + 1))).length) ∧ w5.ownsRow w3.heap.size 9 1 (.slice a5 (r + 1) c5) (r + 1) ((dd ((S.map nmL).take (j + 1))).map encStr)) := fun hd v5 w5 c5 a5 ho _ => by
                rw [HT.out, hd, List.length_append, List.map_append, ← hr.out]
                exact ⟨rfl, ho⟩
              have hr30 : r ≤ 30 := by omega
              rcases hcase with ⟨rfl, hd⟩ | ⟨s, g, L, hrs, rfl, hgw, y0, ⟨hL, hd⟩ | ⟨hL, hd⟩⟩
              · have HD := Lib.hid (fin.out hd)
                clear hd hr HT fin
                go_wp2_with fail
                go_quiet (fail)
                all_goals
                  have hw4 : w3.heap.size ≤ (((wr.alloc (.cells #[.string x1, .string x2] 42)).drewN nq).alloc (.cells #[.string x1] 9)).heap.size := (APP.out nq).2.size
                  go_wp2_with (at_builtin; refine wpList_append_own _ rfl _ _ 39 rfl w3.heap.size 9 j0 (.string ByteArray.empty) 1 16 Try.underlying39 hj0 hy0 hy1 hy2 rfl (by decide) _ (0) _ rfl (APP.out nq).1 ⟨wr.heap.size + 1, 0, none⟩ 1 1 [.string x1] rfl rfl (one_cellD _ _ _ _ _) (by intro u hu; simp at hu; rcases hu with rfl; rfl) (by unfold maxLen; omega) (by omega) hw4 ?_; intro v6 w6 hown6 hgr6 _; obtain ⟨a6, c6, rfl⟩ := of_row_n hown6)
                  obtain ⟨hq6, ho6⟩ := HD.out _ w6 c6 a6 hown6 rfl
                  have B6 : Hid (Below w3.heap.size w3 w6) := (APP.out nq).2.grown hgr6 (APP.out nq).2.size (fun k e => HROWS.out k e)
                  have HQ6 := Lib.hid hq6
                  have HO6 := Lib.hid ho6
                  clear hown6 hgr6 hq6 ho6
                  go_wp2_with fail
                  go_roundw
                  case rel => exact ⟨j + 1, 0 + 1, a6, c6, by omega, by go_num, rfl, by omega, HQ6, HO6, B6⟩
                  case measure => first | (simp [intOf]; done) | (simp [intOf]; omega)
              · have hx1 : (⟨L.toArray⟩ : ByteArray) = x1 := by rw [hL]; rfl
                rw [hx1] at y0
                have e0 := eqs x1
                clear hx1
                have HQ5 : Hid (r = (dd ((S.map nmL).take (j + 1))).length) := by unfold Hid; rw [HT.out, hd]; exact hr.out
                have O5 : Hid ((wr.alloc (.cells #[.string x1, .string x2] 42)).ownsRow w3.heap.size 9 1 (.slice (some ⟨g, 0, none⟩) r c) r ((dd ((S.map nmL).take (j + 1))).map encStr)) := by unfold Hid; rw [HT.out, hd]; exact O4.out
                have hs1 : (r : Int) - 1 = (s : Int) := by omega
                have hs2 : ¬ (r : Int) = 0 := by omega
                have hs3 : ((r : Int) == 0) = false := beq_eq_false_iff_ne.2 hs2
                have hs4 : ¬ r = 0 := by omega
                have hsc : s < c := by omega
                have hsr : s < r := by omega
                have hsI : (s : Int) < (r : Int) := by omega
                clear hrs
                clear hd hr HT fin hL
                go_wp2_with fail
                go_quiet (fail)
                all_goals
                  go_wp2_with fail
                  go_roundw
                  case rel => exact ⟨j + 1, r, _, c, by omega, by go_num, rfl, by omega, HQ5, O5.out, drewN_below' B4.out _⟩
                  case measure => first | (simp [intOf]; done) | (simp [intOf]; omega)
              · have e0 : (L == x1.toList) = false := beq_eq_false_iff_ne.2 (fun e => hL (by rw [e, ByteArray.toList_eq]; rfl))
                have e1 : ¬ L = x1.toList := beq_eq_false_iff_ne.1 e0
                have HD := Lib.hid (fin.out hd)
                have hs1 : (r : Int) - 1 = (s : Int) := by omega
                have hs2 : ¬ (r : Int) = 0 := by omega
                have hs3 : ((r : Int) == 0) = false := beq_eq_false_iff_ne.2 hs2
                have hs4 : ¬ r = 0 := by omega
                have hsc : s < c := by omega
                have hsr : s < r := by omega
                have hsI : (s : Int) < (r : Int) := by omega
                clear hrs
                clear hd hr HT fin hL
                go_wp2_with fail
                go_quiet (fail)
                all_goals
                  have hw4 : w3.heap.size ≤ (((wr.alloc (.cells #[.string x1, .string x2] 42)).drewN nq).alloc (.cells #[.string x1] 9)).heap.size := (APP.out nq).2.size
                  go_wp2_with (at_builtin; refine wpList_append_own _ rfl _ _ 39 rfl w3.heap.size 9 j0 (.string ByteArray.empty) 1 16 Try.underlying39 hj0 hy0 hy1 hy2 rfl (by decide) _ (r) _ rfl (APP.out nq).1 ⟨wr.heap.size + 1, 0, none⟩ 1 1 [.string x1] rfl rfl (one_cellD _ _ _ _ _) (by intro u hu; simp at hu; rcases hu with rfl; rfl) (by unfold maxLen; omega) (by omega) hw4 ?_; intro v6 w6 hown6 hgr6 _; obtain ⟨a6, c6, rfl⟩ := of_row_n hown6)
                  obtain ⟨hq6, ho6⟩ := HD.out _ w6 c6 a6 hown6 rfl
                  have B6 : Hid (Below w3.heap.size w3 w6) := (APP.out nq).2.grown hgr6 (APP.out nq).2.size (fun k e => HROWS.out k e)
                  have HQ6 := Lib.hid hq6
                  have HO6 := Lib.hid ho6
                  clear hown6 hgr6 hq6 ho6
                  go_wp2_with fail
                  go_roundw
                  case rel => exact ⟨j + 1, r + 1, a6, c6, by omega, by go_num, rfl, by omega, HQ6, HO6, B6⟩
                  case measure => first | (simp [intOf]; done) | (simp [intOf]; omega)
            · obtain rfl : j = q := by omega
              have hni : ¬ (j : Int) < (j : Int) := by omega
              have O := hown.out
              have Q := hr.out
              rw [← HSL.out, ← List.length_map (f := nmL), List.take_length, ← HDN.out] at O Q
              have HO1 : Hid (wr.ownsRow w.heap.size 9 1 (.slice a r c) r ((dnm l o).map encStr)) := own_mono' O HB3.out.size
              have HQ1 := Lib.hid Q
              have HB4 := Lib.hid (keep HB3.out hbl.out)
              clear O Q hown hr hbl
              go_wp2_with fail
              go_ret
              exact ⟨a, r, c, rfl, HQ1.out, HO1.out, HB4.out⟩
end Go.Proofs.Ytpoipkjchnopbaa.P9
