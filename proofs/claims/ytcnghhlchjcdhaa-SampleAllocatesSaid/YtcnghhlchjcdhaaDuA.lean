import Derived.Test.YtcnghhlchjcdhaaEstA
import Derived.Test.YtcnghhlchjcdhaaDtA
import Derived.Test.YtcnghhlchjcdhaaDtB
import Derived.Test.YtcnghhlchjcdhaaRef2b
/- Positive numbers of a tape, and rows of them. -/
namespace Go.Proofs.Ytcnghhlchjcdhaa.Dr
open Go.RowKit Go.Sort C6

def TpPost (w : World) (B : Nat) (ao : Option Addr) (n cap i : Nat) (e : Ending) (w' : World) : Prop := ∃ s a l c o m d q, sgn q = 1 ∧ e = .returned (.agg #[.bool s, .slice a l c, .slice o m d]) ∧ CQ w.heap.size w' s a l c o m d q 2 ∧ w.grownBy w' (some B) ∧ Tap w' B ao n cap (i + 2)

set_option maxHeartbeats 8000000 in
set_option maxRecDepth 100000 in
theorem TRatioP_v (B : Nat) (ao : Option Addr) (cap : Nat) (ts : List Int) (i : Nat) (w : World) (hb : Tap w B ao ts.length cap i) (ht : RdZ w ao cap ts) (htB : 0 < (intz ts).length → ∀ b o, ao = some ⟨b, o, none⟩ → b < B) (hi : i ≤ 900) :
    Calls Try.prog 22 #[.pointer (some ⟨B, 0, none⟩)] w (TpPost w B ao ts.length cap i) := by
  obtain ⟨W1, hW1⟩ : ∃ W, W = w.alloc (.cells #[.bool false, .slice none 0 0, .slice none 0 0] 33) := ⟨_, rfl⟩
  have hBl := hb.lt
  have T1 : Tap W1 B ao ts.length cap i := by rw [hW1]; exact hb.alloc _
  have B1 : Below w.heap.size w W1 := by rw [hW1]; exact below_new _ _
  have s1 : W1.heap.size = w.heap.size + 1 := by rw [hW1]; exact World.size_alloc _ _
  have g1 : w.grownBy W1 (some B) := below_gb B1 _
  have R1 : RdZ W1 ao cap ts := rd_gbE ht htB (Nat.le_of_lt hBl) g1
  have x1 : W1.heap[w.heap.size]? = some (.cells #[.bool false, .slice none 0 0, .slice none 0 0] 33 (0, 0)) := by rw [hW1]; exact heap_alloc_new _ _
  have HT1 := Lib.hid T1
  have HR1 := Lib.hid R1
  have HG1 := Lib.hid g1
  have HX1 := Lib.hid x1
  have HTB := Lib.hid htB
  have HS1 := Lib.hid s1
  clear hb ht htB T1 R1 g1 x1 B1 s1
  go_enter Try.func22, Try.ntmps22
  go_wp2_with fail
  rw [← hW1]
  clear hW1
  refine (Next_v B ao cap ts i 40 _ HT1.out HR1.out (by omega) (by omega) (by omega) 40 rfl).mono ?_; rintro e w2 ⟨r1, rfl, hr1, g2, z2, t2⟩
  have HT2 := Lib.hid t2
  have HR2 := Lib.hid (rd_gbE HR1.out HTB.out (Nat.le_of_lt HT1.out.lt) g2)
  have HX2 := Lib.hid ((g2.block _ (Array.getElem?_eq_some_iff.1 HX1.out).1 (by simp; omega)).trans HX1.out)
  have HG2 := Lib.hid (gb_trans HG1.out g2)
  clear g2 z2 t2
  obtain ⟨x, hx⟩ : ∃ x : Nat, x = 1 + r1 := ⟨_, rfl⟩
  have hx1 : 1 ≤ x := by omega
  have hxb : x ≤ 40 := by omega
  have hxi : 1 + (r1 : Int) = (x : Int) := by omega
  have hxw : IntKind.i64.wrap (x : Int) = (x : Int) := IntWalk.i64_in _ (by omega)
  clear hx hr1
  go_wp2_with fail
  refine (Next_v B ao cap ts (i + 1) 12 _ HT2.out HR2.out (by omega) (by omega) (by omega) 12 rfl).mono ?_; rintro e w3 ⟨r2, rfl, hr2, g3, z3, t3⟩
  have HT3 := Lib.hid t3
  have HX3 := Lib.hid ((g3.block _ (Array.getElem?_eq_some_iff.1 HX2.out).1 (by simp; omega)).trans HX2.out)
  have HG3 := Lib.hid (gb_trans HG2.out g3)
  clear g3 z3 t3
  obtain ⟨y, hy⟩ : ∃ y : Nat, y = 1 + r2 := ⟨_, rfl⟩
  have hy1 : 1 ≤ y := by omega
  have hyb : y ≤ 12 := by omega
  have hyi : 1 + (r2 : Int) = (y : Int) := by omega
  have hyw : IntKind.i64.wrap (y : Int) = (y : Int) := IntWalk.i64_in _ (by omega)
  obtain ⟨q, hq⟩ : ∃ q, q = rq (decide ((x : Int) < 0) != decide ((y : Int) < 0)) (x : Int).natAbs (y : Int).natAbs := ⟨_, rfl⟩
  have HSQ : Hid (sgn q = 1) := by
    unfold Hid
    rw [hq, decide_eq_false (show ¬ (x : Int) < 0 by omega), decide_eq_false (show ¬ (y : Int) < 0 by omega), Int.natAbs_natCast, Int.natAbs_natCast, sgn_rq (by omega), if_neg (by omega)]
    rfl
  have FQ : Hid (Calls Try.prog 23 #[.int .i64 (x : Int), .int .i64 (y : Int)] w3 (MakesQ q 2 w3)) := by
    rw [hq]; exact mFracS (x : Int) (y : Int) (by omega) (by omega) (by omega) (by omega) w3
  clear hq
  clear hy hr2
  go_wp2_with fail
  refine FQ.out.mono ?_; rintro e w4 ⟨s, a, l, c, o, m, d, rfl, cq, b4⟩
  have x4 := carry HX3.out b4
  have g4 := gb_trans HG3.out (below_gb b4 (some B))
  have t4 := HT3.out.keep b4
  obtain ⟨q0, q1, q2, z0, z1, z2⟩ := at_block x4
  have hsw : w.heap.size < w3.heap.size := (Array.getElem?_eq_some_iff.1 HX3.out).1
  have HC := Lib.hid (cq.mono (B' := w.heap.size + 1) (by omega))
  have HG4 := Lib.hid g4
  have HT4 := Lib.hid t4
  clear x4 g4 t4 cq b4
  go_wp2_with fail
  refine bodyPost_ret (v := .agg #[.bool s, .slice a l c, .slice o m d]) (by simp [results, Try.results22, go_sem, q0, q1, q2]) rfl ?_
  refine ⟨s, a, l, c, o, m, d, _, HSQ.out, rfl, (((HC.out.set_at _ _).set_at _ _).set_at _ _).mono (by omega), gb_far3E HG4.out (Nat.le_refl _) _ _ _, ?_⟩
  have := HT4.out
  unfold Tap at this ⊢
  rw [set3_off (by omega)]
  exact this

theorem gb_rowU {A w w' : World} {B base n size : Nat} {e : TypeId} {v : Value} {xs : List Value} (h : A.grownBy w (some B)) (ho : w.ownsRow base e size v n xs) (hb : A.heap.size ≤ base) (g : w.grownBy w' v.ownBlock) : A.grownBy w' (some B) :=
  ⟨g.os.trans h.os, g.tape.trans h.tape, g.output.trans h.output, Nat.le_trans h.size g.size, fun b hlt hne => (g.block b (Nat.lt_of_lt_of_le hlt h.size) (fun q => by have := (ho.lt b q.symm).1; omega)).trans (h.block b hlt hne)⟩
/-- a row of n positive numbers -/
def RatsPost (w : World) (B : Nat) (ao : Option Addr) (n cap i N : Nat) (e : Ending) (w' : World) : Prop := ∃ (v : Value) (rs : List RV) (xs : List Rat), e = .returned v ∧ w'.ownsRow w.heap.size 33 3 v N (rvs rs) ∧ rs.length = N ∧ Lc w.heap.size w' rs xs 2 ∧ (∀ x ∈ xs, sgn x = 1) ∧ w.grownBy w' (some B) ∧ Tap w' B ao n cap (i + 2 * N)

set_option maxHeartbeats 8000000 in
set_option maxRecDepth 100000 in
theorem Ratios_v (B : Nat) (ao : Option Addr) (cap : Nat) (ts : List Int) (i0 N : Nat) (w : World) (hb : Tap w B ao ts.length cap i0) (ht : RdZ w ao cap ts) (htB : 0 < (intz ts).length → ∀ b o, ao = some ⟨b, o, none⟩ → b < B) (hi : i0 ≤ 500) (hN : N ≤ 19) :
    Calls Try.prog 6 #[.pointer (some ⟨B, 0, none⟩), .int .i64 (N : Int)] w (RatsPost w B ao ts.length cap i0 N) := by
  obtain ⟨k0, hk, hz0, hz1, hz2⟩ := info_partsr infoRatio
  obtain ⟨M, hM⟩ : ∃ M, M = w.heap.size := ⟨_, rfl⟩
  have T0 := Lib.hid hb
  have R0 := Lib.hid ht
  have HTB := Lib.hid htB
  have hMB : Hid (B < M) := by unfold Hid; rw [hM]; exact hb.lt
  have HM := Lib.hid hM
  clear hM hb ht htB
  go_enter Try.func6, Try.ntmps6
  go_wp2_with fail
  go_loopw [7, 5] (fun s7 s5 wr => ∃ (i : Nat) (v : Value) (es : List RV) (xs : List Rat), i ≤ N ∧ s7 = .int .i64 (i : Int) ∧ v = s5 ∧ Hid (wr.ownsRow M 33 3 v i (rvs es)) ∧ Hid (Lc M wr es xs 2) ∧ Hid (∀ x ∈ xs, sgn x = 1) ∧ Hid (Tap wr B ao ts.length cap (i0 + 2 * i)) ∧ Hid (w.grownBy wr (some B))) (fun s7 _ _ => N - (intOf s7).toNat)
  case atStart => exact ⟨0, _, [], [], by omega, rfl, rfl, World.ownsRow_nil _ _ _ _, (show Lc M _ [] [] 2 from Lc.nil _ _ _), (fun x hx => by cases hx), T0.out, World.grownBy.refl _ _⟩
  case round =>
    obtain ⟨i, v, es, xs, hiN, rfl, rfl, hov, hlv, hsx, htp, hgb⟩ := hrel
    have hsz : Hid (M ≤ wr.heap.size) := by unfold Hid; rw [HM.out]; exact hgb.out.size
    by_cases hlt : i < N
    · have hlt2 : (i : Int) < (N : Int) := by omega
      have hRd := Lib.hid (rd_gbE R0.out HTB.out (Nat.le_of_lt T0.out.lt) hgb.out)
      go_wp2_with fail
      refine (TRatioP_v B ao cap ts (i0 + 2 * i) _ htp.out hRd.out HTB.out (by omega)).mono ?_; rintro e w5 ⟨s5, a5, l5, c5, o5, m5, d5, q5, hq5, rfl, cq5, g5, t5⟩
      have hsz5 : Hid (M ≤ w5.heap.size) := Nat.le_trans hsz.out g5.size
      have hov5 := Lib.hid (hov.out.kept g5 (C6.row_block hov.out hMB.out))
      have hlv5 := Lib.hid (hlv.out.gb hMB.out g5)
      have hcq5 := Lib.hid (cq5.mono hsz.out)
      have hgb5 := Lib.hid (gb_trans hgb.out g5)
      have htp5 := Lib.hid t5
      have HQ5 : Hid (∀ x ∈ xs ++ [q5], sgn x = 1) := fun x hx => by
        rcases List.mem_append.1 hx with h | h
        · exact hsx.out x h
        · rw [List.mem_singleton.1 h]; exact hq5
      have hm5 : M ≤ w5.heap.size := hsz5.out
      clear hov hlv htp hgb hRd cq5 g5 t5 hsz hsx hq5
      go_wp2_with (at_builtin; refine wpList_append_lies _ rfl _ _ 22 rfl M 33 k0 (.agg #[.bool false, .slice none 0 0, .slice none 0 0]) 3 56 Try.underlying22 hk hz0 hz1 hz2 rfl (by omega) _ _ _ rfl (hov5.out.alloc _) ⟨w5.heap.size, 0, none⟩ 1 1 [.bool s5, .slice a5 l5 c5, .slice o5 m5 d5] rfl rfl (three_cell _ _ _ _ _) (by intro u hu; simp at hu; rcases hu with rfl | rfl | rfl <;> rfl) (by omega) (by unfold maxLen; omega) (by omega) (by simp; omega) (w5.heap.size + 1) (by simp) ?_; intro g8 c8 w8 hown8 hgr8 hat8 hlt8)
      have nA := below_new w5 (.cells #[.bool s5, .slice a5 l5 c5, .slice o5 m5 d5] 33)
      have HOV8 : Hid (w8.ownsRow M 33 3 (.slice (some ⟨g8, 0, none⟩) (i + 1) c8) (i + 1) (rvs (es ++ [⟨s5, a5, l5, c5, o5, m5, d5⟩]))) := by unfold Hid; rw [rvs_append]; exact hown8
      have hlv8 : Hid (Lc M w8 (es ++ [⟨s5, a5, l5, c5, o5, m5, d5⟩]) (xs ++ [q5]) 2) := ((hlv5.out.below nA).keepRow (hov5.out.alloc _) hgr8).snoc ((hcq5.out.below nA).keepRow3 (hov5.out.alloc _) hgr8)
      have htp8 : Hid (Tap w8 B ao ts.length cap (i0 + 2 * (i + 1))) := by
        have := (htp5.out.alloc (.cells #[.bool s5, .slice a5 l5 c5, .slice o5 m5 d5] 33)).grown hgr8 (fun q => by have := (hov5.out.lt _ q.symm).1; have := hMB.out; omega)
        rwa [show i0 + 2 * i + 2 = i0 + 2 * (i + 1) by omega] at this
      have hgb8 := Lib.hid (gb_rowU (gb_trans hgb5.out (World.grownBy_alloc w5 (.cells #[.bool s5, .slice a5 l5 c5, .slice o5 m5 d5] 33) (some B))) (hov5.out.alloc _) (by rw [HM.out]; exact Nat.le_refl _) hgr8)
      clear nA hov5 hlv5 hcq5 hgb5 htp5 hsz5 hown8 hgr8 hat8 hm5
      go_wp2_with fail
      go_roundw
      case rel => exact ⟨i + 1, _, _, _, by omega, by go_num, rfl, HOV8, hlv8, HQ5, htp8, hgb8⟩
      case measure => simp [intOf]; omega
    · obtain rfl : i = N := by omega
      have hlt2 : ¬ (i : Int) < (i : Int) := by omega
      have hev : Hid (es.length = i) := by have := hov.out.1; rw [rvs_length] at this; unfold Hid; omega
      go_wp2_with fail
      go_ret
      exact ⟨_, es, xs, rfl, (by rw [← HM.out]; exact hov.out), hev.out, (by rw [← HM.out]; exact hlv.out), hsx.out, hgb.out, htp.out⟩
end Go.Proofs.Ytcnghhlchjcdhaa.Dr
/- The reference's Int at a small natural number; rows kept while another row grows. -/
namespace Go.Proofs.Ytcnghhlchjcdhaa.Dr
open Go.RowKit Go.Sort C6

theorem Fr.keepT {B base n size : Nat} {t : TypeId} {w w' : World} {ao : Option Addr} {ca : Nat} {xs : List Nat} {v : Value} {vs : List Value} (h : Fr B w ao ca xs) (ho : w.ownsRow base t size v n vs) (ht : t ≠ 71) (g : w.grownBy w' v.ownBlock) : Fr B w' ao ca xs := by
  obtain ⟨h1, h2, h3, h4⟩ := h
  refine ⟨h1, h2, h3, ?_⟩
  rcases h4 with h4 | ⟨b, e, hb, hw⟩
  · exact .inl h4
  · refine .inr ⟨b, e, hb, hw.grown g ?_⟩
    rcases ho.2 with ⟨rfl, _⟩ | ⟨k, cap, cur, rfl, _, hk, _⟩
    · intro q; cases q
    · intro q
      have : b = k := Option.some.inj q
      subst this
      obtain ⟨cur', h5, _⟩ := hw
      rw [h5] at hk
      simp only [Option.some.injEq, Obj.cells.injEq] at hk
      exact ht hk.2.1.symm
theorem CQ.keepT {B base l size : Nat} {t : TypeId} {w w' : World} {v : Value} {vs : List Value} {s : Bool} {ao : Option Addr} {n ca : Nat} {bo : Option Addr} {m cb : Nat} {q : Rat} {k : Nat} (h : CQ B w s ao n ca bo m cb q k) (ho : w.ownsRow base t size v l vs) (ht : t ≠ 71) (g : w.grownBy w' v.ownBlock) : CQ B w' s ao n ca bo m cb q k := by
  obtain ⟨h1, h2, h3, h4, h5, h6⟩ := h
  exact ⟨h1, h2, h3, Fr.keepT h4 ho ht g, Fr.keepT h5 ho ht g, h6⟩
theorem Lc.keepT {Bs base l size : Nat} {t : TypeId} {w w' : World} {v : Value} {vs : List Value} {rs : List RV} {qs : List Rat} {k : Nat} (h : Lc Bs w rs qs k) (ho : w.ownsRow base t size v l vs) (ht : t ≠ 71) (g : w.grownBy w' v.ownBlock) : Lc Bs w' rs qs k := ⟨h.1, fun i hi => CQ.keepT (h.2 i hi) ho ht g⟩
theorem Lc.put {Bs : Nat} {w : World} {rs : List RV} {qs : List Rat} {k : Nat} {r : RV} {q : Rat} (h : Lc Bs w rs qs k) (b : Nat) (hr : CQ Bs w r.s r.ao r.n r.ca r.bo r.m r.cb q k) : Lc Bs w (rs.set b r) (qs.set b q) k := by
  refine ⟨by simp [h.1], fun i hi => ?_⟩
  have hi' : i < rs.length := by simpa using hi
  have hq' : i < qs.length := by rw [← h.1]; exact hi'
  by_cases e : i = b
  · subst e
    have e1 : (rs.set i r).getD i RV.nil = r := by simp [List.getD, hi']
    have e2 : (qs.set i q).getD i 0 = q := by simp [List.getD, hq']
    rw [e1, e2]
    exact hr
  · have e1 : (rs.set b r).getD i RV.nil = rs.getD i RV.nil := by simp [List.getD, List.getElem?_set_ne (Ne.symm e)]
    have e2 : (qs.set b q).getD i 0 = qs.getD i 0 := by simp [List.getD, List.getElem?_set_ne (Ne.symm e)]
    rw [e1, e2]
    exact h.2 i hi'
theorem rowT_below {w w' : World} {base n size : Nat} {t : TypeId} {v : Value} {xs : List Value} {B : Nat} (h : w.ownsRow base t size v n xs) (hB : B ≤ base) (hBw : B ≤ w.heap.size) (g : w.grownBy w' v.ownBlock) : Below B w w' :=
  (Below.refl _ _).grown g hBw (fun k e => by have := h.lt k e; omega)
/-- rows of other types lie in other blocks -/
theorem rows_off {w : World} {b1 b2 k1 k2 n1 n2 : Nat} {t1 t2 : TypeId} {u v : Value} {xs ys : List Value} (ht : t1 ≠ t2) (h1 : w.ownsRow b1 t1 k1 u n1 xs) (h2 : w.ownsRow b2 t2 k2 v n2 ys) : u.ownBlock = none ∨ u.ownBlock ≠ v.ownBlock := by
  rcases h1.2 with ⟨rfl, _⟩ | ⟨g, cap, cur, rfl, _, hg, _⟩
  · exact .inl rfl
  · right
    rcases h2.2 with ⟨rfl, _⟩ | ⟨g', cap', cur', rfl, _, hg', _⟩
    · intro q; cases q
    · intro q
      obtain rfl : g = g' := Option.some.inj q
      rw [hg] at hg'
      simp only [Option.some.injEq, Obj.cells.injEq] at hg'
      exact ht hg'.2.1
theorem row_ptr {w : World} {base n size : Nat} {e : TypeId} {v : Value} {xs : List Value} (h : w.ownsRow base e size v n xs) (h1 : 1 ≤ n) : ∃ g c, v = .slice (some ⟨g, 0, none⟩) n c ∧ base ≤ g ∧ n ≤ c ∧ c ≤ maxLen := by
  rcases h.2 with ⟨_, h0⟩ | ⟨g, cap, cur, e, hb, _, hn, hm, _⟩
  · omega
  · exact ⟨g, cap, e, hb, hn, hm⟩
theorem rowF_snoc (j : Nat) (c : Nat → Int) : rowF (j + 1) c = rowF j c ++ [.int .i64 (c j)] := by
  unfold rowF
  rw [List.range_succ, List.map_append]
  rfl
theorem rn_whole (c : Nat) : rn (fq (c : Int) 1) = c := by
  unfold fq
  rw [rn_rq (by decide)]
  simp

set_option maxHeartbeats 4000000 in
set_option maxRecDepth 100000 in
theorem Int_k (s : Bool) (ao bo : Option Addr) (n ca m cb k c B : Nat) (hc : c ≤ 1099511627776) (w : World) (h : CQ B w s ao n ca bo m cb (fq (c : Int) 1) k) :
    Calls Try.prog 36 #[.agg #[.bool s, .slice ao n ca, .slice bo m cb]] w fun e w' => e = .returned (.int .i64 (c : Int)) ∧ Below w.heap.size w w' := by
  obtain ⟨xs, hn, hrd, hv, hl⟩ := cq_upperD h
  rw [rn_whole] at hv
  have B0 := below_new w (.cells #[.bool s, .slice ao n ca, .slice bo m cb] 33)
  have Z0 := heap_alloc_new w (.cells #[.bool s, .slice ao n ca, .slice bo m cb] 33)
  obtain ⟨W1, hW1⟩ : ∃ W, W = w.alloc (.cells #[.bool s, .slice ao n ca, .slice bo m cb] 33) := ⟨_, rfl⟩
  rw [← hW1] at B0 Z0
  have UC : Hid (Calls Try.prog 60 #[.slice ao n ca] W1 fun e w'' => e = .returned (.tuple #[.int .u64 (c : Int), .bool true]) ∧ W1 = w'') := by
    have := rUint_any ao ca xs W1 (hrd.below B0) (by omega)
    unfold Hid
    rw [hn]
    have e1 : fitv (val xs) = c := by rw [hv]; unfold fitv; rw [if_pos (by omega)]
    have e2 : fits (val xs) = true := by rw [hv]; exact decide_eq_true (by omega)
    rwa [e1, e2] at this
  have HB := Lib.hid B0
  obtain ⟨x0, x1, x2, _⟩ := at_block Z0
  have hci : IntKind.i64.wrap (c : Int) = (c : Int) := IntWalk.i64_in _ (by omega)
  clear h hn hrd hv hl Z0 B0
  go_enter Try.func36, Try.ntmps36
  go_wp2_with fail
  rw [← hW1]
  clear hW1
  refine UC.out.mono ?_; rintro e W2 ⟨rfl, rfl⟩
  clear x0 x1 x2 UC
  go_wp2_with fail
  go_ret
  exact ⟨rfl, HB.out⟩
end Go.Proofs.Ytcnghhlchjcdhaa.Dr
