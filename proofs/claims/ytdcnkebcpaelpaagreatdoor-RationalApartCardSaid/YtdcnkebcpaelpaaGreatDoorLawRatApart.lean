import Derived.Test.YtdcnkebcpaelpaaGreatDoorPairs
import Derived.Test.YtdcnkebcpaelpaaGreatDoorApts
import Derived.Test.YtdcnkebcpaelpaaGreatDoorCls0
import Derived.Test.YtdcnkebcpaelpaaGreatDoorInvL
import Derived.Deep.CutRange
import Derived.ArgAppend
/- RationalApart: the walk. -/
namespace Go.Proofs.YtdcnkebcpaelpaaGreatDoor
open Go.RowKit C6

theorem infoU32A : (Tryz.prog.info? 35).map (fun i => (i.zero, i.size, i.bytes)) = some (some (.int .u32 0), 1, 4) := by kernel_rfl
/-- a slice of one's own memory, from block B on, whose first n cells can be written -/
def Wr (B : Nat) (w : World) (ao : Option Addr) (n : Nat) : Prop := n ≤ 9223372036854775807 ∧ (n = 0 ∨ ∃ b, ao = some ⟨b, 0, none⟩ ∧ B ≤ b ∧ ∃ cur : Array Value, w.heap[b]? = some (.cells cur 35 (0, 0)) ∧ n ≤ cur.size)
theorem Fr.wr {B : Nat} {w : World} {ao : Option Addr} {cap n : Nat} {xs : List Nat} (h : Fr B w ao cap xs) (hn : n = xs.length) : Wr B w ao n := by
  obtain ⟨h1, h2, -, h4⟩ := h
  refine ⟨by omega, ?_⟩
  rcases h4 with ⟨-, rfl, -⟩ | ⟨b, e, hB, cur, hc, hl, -⟩
  · exact .inl hn
  · exact .inr ⟨b, e, hB, cur, hc, by omega⟩
theorem Wr.below {B : Nat} {w w' : World} {ao : Option Addr} {n : Nat} (h : Wr B w ao n) (hb : Below w.heap.size w w') : Wr B w' ao n := by
  refine ⟨h.1, ?_⟩
  rcases h.2 with h | ⟨b, e, hB, cur, hc, hl⟩
  · exact .inl h
  · exact .inr ⟨b, e, hB, cur, (hb.block b (Array.getElem?_eq_some_iff.1 hc).1).trans hc, hl⟩
theorem Wr.set {B : Nat} {w : World} {ao : Option Addr} {n : Nat} (h : Wr B w ao n) (b j : Nat) (v : Value) : Wr B (w.setCell ⟨b, j, none⟩ v) ao n := by
  refine ⟨h.1, ?_⟩
  rcases h.2 with h | ⟨b', e, hB, cur, hc, hl⟩
  · exact .inl h
  · by_cases hbb : b = b'
    · subst hbb
      exact .inr ⟨b, e, hB, cur.setIfInBounds j v, by simp [World.setCell, Array.getElem?_modify, hc], by simpa using hl⟩
    · exact .inr ⟨b', e, hB, cur, by simp [World.setCell, Array.getElem?_modify, hbb, hc], hl⟩
/-- both limbs' slices of a number -/
def FrS (B : Nat) (w : World) (r : RV) : Prop := Wr B w r.ao r.n ∧ Wr B w r.bo r.m
theorem CQ.frs {B : Nat} {w : World} {s : Bool} {ao : Option Addr} {n ca : Nat} {bo : Option Addr} {m cb : Nat} {q : Rat} {k : Nat} (h : CQ B w s ao n ca bo m cb q k) : FrS B w ⟨s, ao, n, ca, bo, m, cb⟩ := by
  obtain ⟨-, h2, h3, h4, h5, -⟩ := h
  exact ⟨h4.wr h2, h5.wr h3⟩
theorem FrS.below {B : Nat} {w w' : World} {r : RV} (h : FrS B w r) (hb : Below w.heap.size w w') : FrS B w' r := ⟨h.1.below hb, h.2.below hb⟩
theorem FrS.set {B : Nat} {w : World} {r : RV} (h : FrS B w r) (b j : Nat) (v : Value) : FrS B (w.setCell ⟨b, j, none⟩ v) r := ⟨h.1.set b j v, h.2.set b j v⟩
theorem Fr.put3 {B : Nat} {w : World} {ao : Option Addr} {cap g : Nat} {xs : List Nat} {u v x : Value} (h : Fr B w ao cap xs) (hg : w.heap[g]? = some (.cells #[u, v, x] 25 (0, 0))) (y z t : Value) : Fr B (((w.setCell ⟨g, 0, none⟩ y).setCell ⟨g, 1, none⟩ z).setCell ⟨g, 2, none⟩ t) ao cap xs := by
  obtain ⟨h1, h2, h3, h4⟩ := h
  refine ⟨h1, h2, h3, ?_⟩
  rcases h4 with h | ⟨b, rfl, hB, h⟩
  · exact .inl h
  · refine .inr ⟨b, rfl, hB, h.block (set3_off (fun e => ?_) _ _ _)⟩
    obtain ⟨cur, hc, _⟩ := h
    rw [e, hg] at hc
    simp at hc
theorem FrS.put3 {B : Nat} {w : World} {r : RV} {g : Nat} (h : FrS B w r) (y z t : Value) : FrS B (((w.setCell ⟨g, 0, none⟩ y).setCell ⟨g, 1, none⟩ z).setCell ⟨g, 2, none⟩ t) r := ⟨((h.1.set g 0 y).set g 1 z).set g 2 t, ((h.2.set g 0 y).set g 1 z).set g 2 t⟩
theorem CQ.upk {B : Nat} {w : World} {s : Bool} {ao : Option Addr} {n ca : Nat} {bo : Option Addr} {m cb : Nat} {q : Rat} {k k' : Nat} (h : CQ B w s ao n ca bo m cb q k) (hk : k ≤ k') (hk2 : k' ≤ 549755813888) : CQ B w s ao n ca bo m cb q k' := by
  obtain ⟨h1, h2, h3, h4, h5, h6, h7⟩ := h
  exact ⟨h1, h2, h3, h4, h5, h6.up hk hk2, h7.up hk hk2⟩
/-- limbs appended to an empty literal: memory of its own -/
theorem wp_append_lims {o : Oper} {a : Act} {w : World} {K : Act → World → Prop} {Q : Exit → Act → World → Prop} (s x : Operand) (t : TypeId)
    (ho : o.op = .call { callee := .builtin .append, args := #[s, x], argTypes := #[t, t] }) (ht : Tryz.prog.underlying t = some (.slice 35))
    {B g n cc : Nat} {xo : Option Addr} {xs : List Nat} (hs : a.eval s = .slice (some ⟨g, 0, none⟩) 0 0) (hg : w.heap[g]? = some (.cells #[] 35 (0, 0))) (hx : a.eval x = .slice xo n cc) (hr : Rd w xo cc xs) (hn : n = xs.length) (hm : xs.length ≤ 12) (hb : B ≤ g) (hB : B ≤ w.heap.size)
    (hk : ∀ po cp w', Fr B w' po cp xs → Below w.heap.size w w' → K (a.put o.dst (.slice po n cp)) w') : Oper.wp Tryz.prog o a w K Q := by
  obtain ⟨i0, hi, hz0, hz1, hz2⟩ := info_parts infoU32A
  have own0 : w.ownsRow g 35 1 (.slice (some ⟨g, 0, none⟩) 0 0) 0 [] := ⟨rfl, .inr ⟨g, 0, #[], rfl, Nat.le_refl _, hg, Nat.le_refl _, by unfold maxLen; omega, rfl, rfl⟩⟩
  by_cases h0 : n = 0
  · have hxs : xs = [] := List.eq_nil_of_length_eq_zero (by omega)
    subst h0
    have hrun : (Builtin.append_ #[t, t] o.type #[.slice (some ⟨g, 0, none⟩) 0 0, .slice xo 0 cc]).run Tryz.prog w = .ok (.slice (some ⟨g, 0, none⟩) 0 0) w := by
      cases xo <;> simp [Builtin.append_, run_underlying ht, sizeOf, typeInfo, hi, Builtin.lenOf, Builtin.firstCells, storeCells, loadCells, loadCellsFrom]
    unfold Oper.wp
    simp [execOp, ho, resolve, invoke, builtin, hs, hx, hrun, Result.andThen]
    exact hk (some ⟨g, 0, none⟩) 0 w (by rw [hxs]; exact ⟨by simp, by omega, lims_nil, .inr ⟨g, rfl, hb, #[], hg, by simp, fun j hj => by simp at hj⟩⟩) (Below.refl _ _)
  · obtain ⟨b, o', rfl, hc⟩ := hr.at (by omega)
    obtain ⟨v', w', hrun, r1, r2⟩ := run_append_arg_grows (P := Tryz.prog) w t o.type 35 i0 (.int .u32 0) 1 4 ht hi hz0 hz1 hz2 rfl (by decide) ⟨g, 0, none⟩ 0 0 [] (by rfl) (fun j u hj => by cases hj) ⟨b, o', none⟩ n cc (lits xs) (by rw [lits_length]; omega) (fun j u hj => by
      rw [lits_get] at hj
      split at hj
      · rename_i hjl
        cases hj
        rw [Addr.add_lit]
        exact hc j hjl
      · cases hj) (by omega) (by unfold maxLen; omega) (by omega)
    unfold Oper.wp
    simp [execOp, ho, resolve, invoke, builtin, hs, hx, hrun, Result.andThen]
    rw [Nat.zero_add, List.nil_append] at r1
    have hlen : xs.length = n := hn.symm
    rcases r1.2 with ⟨-, h1⟩ | ⟨g', cap', cur, e, hb', -, hnc, hcap, -, -⟩
    · omega
    · subst e
      obtain ⟨ow, h2, h3, h4, h5⟩ := Own.of_row r1
      exact hk (some ⟨g', 0, none⟩) cap' w' (Fr.of_own ow hr.lims (by omega) cap' (by omega) h4) ⟨r2.os, r2.tape, r2.output, r2.size, fun i hi => r2.block i hi (by simp)⟩
theorem set_off_u32 {w : World} {g b : Nat} {cs cur : Array Value} (h : w.heap[g]? = some (.cells cs 25 (0, 0))) (hc : w.heap[b]? = some (.cells cur 35 (0, 0))) (i : Nat) (x : Value) : (w.setCell ⟨b, i, none⟩ x).heap[g]? = some (.cells cs 25 (0, 0)) := by
  have hne : b ≠ g := fun e => by rw [e, h] at hc; simp at hc
  simp [World.setCell, Array.getElem?_modify, hne, h]
theorem lit_rdr {w : World} {g : Nat} {s : Bool} {ao : Option Addr} {n ca : Nat} {bo : Option Addr} {m cb : Nat} (h : w.heap[g]? = some (.cells #[.bool s, .slice ao n ca, .slice bo m cb] 25 (0, 0))) : RdR w (some ⟨g, 0, none⟩) 1 [⟨s, ao, n, ca, bo, m, cb⟩] := by
  refine ⟨by simp, by omega, .inr ⟨g, 0, rfl, fun i hi => ?_⟩⟩
  obtain rfl : i = 0 := by simpa using hi
  refine ⟨?_, ?_, ?_⟩ <;> simp [World.cell?, h]
/-- the cells of a list of numbers -/
def LitC (cur : Array Value) (rs : List RV) : Prop := ∀ j, j < rs.length → cur[j * 3]? = some (.bool (rs.getD j RV.nil).s) ∧ cur[j * 3 + 1]? = some (.slice (rs.getD j RV.nil).ao (rs.getD j RV.nil).n (rs.getD j RV.nil).ca) ∧ cur[j * 3 + 2]? = some (.slice (rs.getD j RV.nil).bo (rs.getD j RV.nil).m (rs.getD j RV.nil).cb)
theorem lit7 (a b c d e f g : RV) : LitC #[.bool a.s, .slice a.ao a.n a.ca, .slice a.bo a.m a.cb, .bool b.s, .slice b.ao b.n b.ca, .slice b.bo b.m b.cb, .bool c.s, .slice c.ao c.n c.ca, .slice c.bo c.m c.cb, .bool d.s, .slice d.ao d.n d.ca, .slice d.bo d.m d.cb, .bool e.s, .slice e.ao e.n e.ca, .slice e.bo e.m e.cb, .bool f.s, .slice f.ao f.n f.ca, .slice f.bo f.m f.cb, .bool g.s, .slice g.ao g.n g.ca, .slice g.bo g.m g.cb] [a, b, c, d, e, f, g] := by
  intro j hj
  have hj7 : j < 7 := by simpa using hj
  match j, hj7 with
  | 0, _ => exact ⟨rfl, rfl, rfl⟩
  | 1, _ => exact ⟨rfl, rfl, rfl⟩
  | 2, _ => exact ⟨rfl, rfl, rfl⟩
  | 3, _ => exact ⟨rfl, rfl, rfl⟩
  | 4, _ => exact ⟨rfl, rfl, rfl⟩
  | 5, _ => exact ⟨rfl, rfl, rfl⟩
  | 6, _ => exact ⟨rfl, rfl, rfl⟩
theorem seven {B : Nat} {w : World} {a b c d e f g : RV} (ha : FrS B w a) (hb : FrS B w b) (hc : FrS B w c) (hd : FrS B w d) (he : FrS B w e) (hf : FrS B w f) (hg : FrS B w g) : ∀ r ∈ [a, b, c, d, e, f, g], FrS B w r := by
  intro r hr
  simp only [List.mem_cons, List.not_mem_nil, or_false] at hr
  rcases hr with rfl | rfl | rfl | rfl | rfl | rfl | rfl <;> assumption

set_option maxHeartbeats 40000000 in
set_option maxRecDepth 100000 in
theorem RationalApart_any (s t : Bool) (ao bo po qo : Option Addr) (ca cb cl cj : Nat) (xs ys zs ts : List Nat) (w : World) (hx : Rd w ao ca xs) (hy : Rd w bo cb ys) (hz : Rd w po cl zs) (ht : Rd w qo cj ts) (htab : Tab w) :
    Calls Tryz.prog 3 #[.agg #[.bool s, .slice ao xs.length ca, .slice bo ys.length cb], .agg #[.bool t, .slice po zs.length cl, .slice qo ts.length cj]] w fun e w' => e = .returned (.bool true) ∧ Below w.heap.size w w' := by
  obtain ⟨us, hu⟩ : ∃ us, us = xs.take 12 := ⟨_, rfl⟩
  obtain ⟨vs, hv⟩ : ∃ vs, vs = ys.take 12 := ⟨_, rfl⟩
  obtain ⟨us', hu'⟩ : ∃ us', us' = zs.take 12 := ⟨_, rfl⟩
  obtain ⟨vs', hv'⟩ : ∃ vs', vs' = ts.take 12 := ⟨_, rfl⟩
  have RX := cut_rq (s := s) hx hy hu hv
  have RY := cut_rq (s := t) hz ht hu' hv'
  obtain ⟨p, hp⟩ : ∃ p, p = rq s (val us) (dn (val vs)) := ⟨_, rfl⟩
  obtain ⟨q, hq⟩ : ∃ q, q = rq t (val us') (dn (val vs')) := ⟨_, rfl⟩
  rw [← hp] at RX
  rw [← hq] at RY
  have HP := Lib.hid hp
  clear hp hq
  obtain ⟨W1, hW1⟩ : ∃ W1, W1 = (w.alloc (.cells #[.bool s, .slice ao xs.length ca, .slice bo ys.length cb] 25)).alloc (.cells #[.bool t, .slice po zs.length cl, .slice qo ts.length cj] 25) := ⟨_, rfl⟩
  have hs1 : W1.heap.size = w.heap.size + 1 + 1 := by rw [hW1]; simp
  have B0 : Below w.heap.size w W1 := by rw [hW1]; exact (below_new w _).alloc (by simp) _
  have x0 : W1.heap[w.heap.size]? = some (.cells #[.bool s, .slice ao xs.length ca, .slice bo ys.length cb] 25 (0, 0)) := by
    rw [hW1, Below.heap_alloc _ _ _ (by simp)]; exact heap_alloc_new w _
  have y0 : W1.heap[w.heap.size + 1]? = some (.cells #[.bool t, .slice po zs.length cl, .slice qo ts.length cj] 25 (0, 0)) := by
    rw [hW1]; have := heap_alloc_new (w.alloc (.cells #[.bool s, .slice ao xs.length ca, .slice bo ys.length cb] 25)) (.cells #[.bool t, .slice po zs.length cl, .slice qo ts.length cj] 25); rwa [World.size_alloc] at this
  have CX : Hid (∀ w', Below w.heap.size w w' → Calls Tryz.prog 4 #[.agg #[.bool s, .slice ao xs.length ca, .slice bo ys.length cb]] w' fun e w'' => e = .returned (.agg #[.bool s, .slice ao us.length ca, .slice bo vs.length cb]) ∧ Below w'.heap.size w' w'') := fun w' hb => CutRatio_any s ao bo ca cb xs ys us vs w' (hx.below hb) (hy.below hb) hu hv
  have CY : Hid (∀ w', Below w.heap.size w w' → Calls Tryz.prog 4 #[.agg #[.bool t, .slice po zs.length cl, .slice qo ts.length cj]] w' fun e w'' => e = .returned (.agg #[.bool t, .slice po us'.length cl, .slice qo vs'.length cj]) ∧ Below w'.heap.size w' w'') := fun w' hb => CutRatio_any t po qo cl cj zs ts us' vs' w' (hz.below hb) (ht.below hb) hu' hv'
  obtain ⟨⟨e0, e1, e2, _⟩, ⟨e3, e4, e5, _⟩⟩ := cells6 x0 y0
  have HS := Lib.hid hs1
  have HXL : Hid (∀ w', Below w.heap.size w w' → Rd w' ao ca us ∧ Rd w' bo cb vs) := fun w' hb => ⟨hu ▸ (hx.below hb).take 12, hv ▸ (hy.below hb).take 12⟩
  have HLN : Hid (us.length ≤ 12 ∧ vs.length ≤ 12) := ⟨by rw [hu, List.length_take]; omega, by rw [hv, List.length_take]; omega⟩
  clear hx hy hz ht hu hv hu' hv' hs1
  go_enter Tryz.func3, Tryz.ntmps3
  go_wp2_with fail
  rw [← hW1]
  clear hW1
  go_cut [] from 14 to 105 (fun wx => TwoW w wx s t ao us.length ca bo vs.length cb po us'.length cl qo vs'.length cj p q 12)
  case first =>
    go_region_with (first
      | (go_at_call_of 4 (Value.agg #[.bool s, .slice ao xs.length ca, .slice bo ys.length cb]); refine (CX.out _ B0.drew).mono ?_; rintro e W2 ⟨rfl, b1⟩; have B2 : Below w.heap.size w W2 := B0.drew.trans (b1.mono B0.drew.size); have x2 := (b1.block w.heap.size (by show w.heap.size < W1.heap.size; rw [HS.out]; omega)).trans (show W1.drew.heap[w.heap.size]? = _ from x0); have y2 := (b1.block (w.heap.size + 1) (by show w.heap.size + 1 < W1.heap.size; rw [HS.out]; omega)).trans (show W1.drew.heap[w.heap.size + 1]? = _ from y0); obtain ⟨_, ⟨g3, g4, g5, _⟩⟩ := cells6 x2 y2)
      | (go_at_call_of 4 (Value.agg #[.bool t, .slice po zs.length cl, .slice qo ts.length cj]); refine (CY.out _ B2).mono ?_; rintro e W3 ⟨rfl, b2⟩; have B3 : Below w.heap.size w W3 := B2.trans (b2.mono B2.size); have hz2 : w.heap.size + 1 < W2.heap.size := (by obtain ⟨h, _⟩ := Array.getElem?_eq_some_iff.1 y2; exact h); have x3 := (b2.block w.heap.size (by omega)).trans x2; have y3 := (b2.block (w.heap.size + 1) hz2).trans y2; obtain ⟨⟨k0, k1, k2, k6, k7, k8⟩, ⟨k3, k4, k5, k9, k10, k11⟩⟩ := cells6 x3 y3))
    all_goals
      have HG : w.heap.size ≠ w.heap.size + 1 := by omega
      have x4 : ((((((W3.setCell ⟨w.heap.size, 0, none⟩ (.bool s)).setCell ⟨w.heap.size, 1, none⟩ (.slice ao us.length ca)).setCell ⟨w.heap.size, 2, none⟩ (.slice bo vs.length cb)).setCell ⟨w.heap.size + 1, 0, none⟩ (.bool t)).setCell ⟨w.heap.size + 1, 1, none⟩ (.slice po us'.length cl)).setCell ⟨w.heap.size + 1, 2, none⟩ (.slice qo vs'.length cj)).heap[w.heap.size]? = some (.cells #[.bool s, .slice ao us.length ca, .slice bo vs.length cb] 25 (0, 0)) := by
        rw [set3_off HG]; exact set3_at x3 _ _ _
      have y4 : ((((((W3.setCell ⟨w.heap.size, 0, none⟩ (.bool s)).setCell ⟨w.heap.size, 1, none⟩ (.slice ao us.length ca)).setCell ⟨w.heap.size, 2, none⟩ (.slice bo vs.length cb)).setCell ⟨w.heap.size + 1, 0, none⟩ (.bool t)).setCell ⟨w.heap.size + 1, 1, none⟩ (.slice po us'.length cl)).setCell ⟨w.heap.size + 1, 2, none⟩ (.slice qo vs'.length cj)).heap[w.heap.size + 1]? = some (.cells #[.bool t, .slice po us'.length cl, .slice qo vs'.length cj] 25 (0, 0)) :=
        set3_at ((set3_off HG.symm _ _ _).trans y3) _ _ _
      have B4 := below3 (below3 B3 (Nat.le_refl _) (.bool s) (.slice ao us.length ca) (.slice bo vs.length cb)) (show w.heap.size ≤ w.heap.size + 1 by omega) (.bool t) (.slice po us'.length cl) (.slice qo vs'.length cj)
      go_wp2_with fail
      go_meet
      exact ⟨x4, y4, RX.below B4, RY.below B4, B4⟩
  case rest =>
    rename World => W2
    have tw := hcut
    obtain ⟨x4, y4, r1, r2, B4⟩ := hcut
    obtain ⟨⟨h0, h1, h2, _⟩, ⟨h3, h4, h5, _⟩⟩ := cells6 x4 y4
    have TW := Lib.hid tw
    clear tw
    have HN0 : ∃ n, n = us.length := ⟨_, rfl⟩
    obtain ⟨n, hn⟩ := HN0
    obtain ⟨m, hm⟩ : ∃ n, n = vs.length := ⟨_, rfl⟩
    rw [← hn, ← hm] at x4
    have HN := Lib.hid hn
    have HM := Lib.hid hm
    have X2 := Lib.hid x4
    have Y2 := Lib.hid y4
    have HB2 : Hid (Below w.heap.size w W2) := B4
    have HRX := Lib.hid (HXL.out W2 B4)
    have HR2 := Lib.hid r2
    have hw2 : w.heap.size + 1 < W2.heap.size := (Array.getElem?_eq_some_iff.1 y4).1
    have HW2 := Lib.hid hw2
    clear hn hm x4 y4 r1 r2 B4 hw2 h0 h1 h2 h3 h4 h5 TW
    go_upto_region 2 with fail
    go_cut [5] from 18 to 28 (fun v5 (wx : World) => ∃ (ga : Nat) (pa : Option Addr) (c1 : Nat) (pb : Option Addr) (c2 : Nat), v5 = .pointer (some ⟨ga, 0, none⟩) ∧ Hid (wx.heap[ga]? = some (.cells #[.bool s, .slice pa n c1, .slice pb m c2] 25 (0, 0))) ∧ Hid (Rd wx pa c1 us ∧ Rd wx pb c2 vs) ∧ Hid (Below W2.heap.size W2 wx))
    case first =>
      refine wp_region_last (late := [12]) (S := fun w' => Below W2.heap.size W2 w') (by kernel_rfl) ((Below.refl _ _).drew) (fun hH => ?_)
      refine wpAnyL_pure (i := 0) (v := (.pointer (some ⟨w.heap.size, 0, none⟩))) rfl (by kernel_rfl) (by kernel_rfl) (by kernel_rfl) (fun _ _ _ h => h) (Or.inl ⟨by kernel_rfl, ?_⟩) ?_
      · intro w1 hB
        go_simp
      change wpAnyL _ _ _ _ _ _ _ _ (Act.put _ (some 18) _) _
      try simp only [Act.put, List.setIfInBounds_toArray, List.set_cons_zero, List.set_cons_succ]
      refine wpAnyL_take (bl := [10, 12]) (i := 1) (v := (.bool s)) (by kernel_rfl) rfl (by kernel_rfl) (by kernel_rfl) (by kernel_rfl) (fun _ _ _ h => h) (Or.inl ⟨by kernel_rfl, ?_⟩) hH ?_
      · intro w1 hB
        obtain ⟨p0, p1, p2, -, -, -⟩ := at_block (carry X2.out hB)
        go_simp
      change wpAnyL _ _ _ _ _ _ _ _ (Act.put _ (some 19) _) _
      try simp only [Act.put, List.setIfInBounds_toArray, List.set_cons_zero, List.set_cons_succ]
      refine wpAnyL_pure (i := 3) (v := (.pointer (some ⟨w.heap.size, 1, none⟩))) rfl (by kernel_rfl) (by kernel_rfl) (by kernel_rfl) (fun _ _ _ h => h) (Or.inl ⟨by kernel_rfl, ?_⟩) ?_
      · intro w1 hB
        go_simp
      change wpAnyL _ _ _ _ _ _ _ _ (Act.put _ (some 21) _) _
      try simp only [Act.put, List.setIfInBounds_toArray, List.set_cons_zero, List.set_cons_succ]
      refine wpAnyL_take (bl := [5, 9, 10, 12]) (i := 4) (v := (.slice ao n ca)) (by kernel_rfl) rfl (by kernel_rfl) (by kernel_rfl) (by kernel_rfl) (fun _ _ _ h => h) (Or.inl ⟨by kernel_rfl, ?_⟩) hH ?_
      · intro w1 hB
        obtain ⟨p0, p1, p2, -, -, -⟩ := at_block (carry X2.out hB)
        go_simp
      change wpAnyL _ _ _ _ _ _ _ _ (Act.put _ (some 22) _) _
      try simp only [Act.put, List.setIfInBounds_toArray, List.set_cons_zero, List.set_cons_succ]
      refine wpAnyL_pure (i := 7) (v := (.pointer (some ⟨w.heap.size, 2, none⟩))) rfl (by kernel_rfl) (by kernel_rfl) (by kernel_rfl) (fun _ _ _ h => h) (Or.inl ⟨by kernel_rfl, ?_⟩) ?_
      · intro w1 hB
        go_simp
      change wpAnyL _ _ _ _ _ _ _ _ (Act.put _ (some 25) _) _
      try simp only [Act.put, List.setIfInBounds_toArray, List.set_cons_zero, List.set_cons_succ]
      refine wpAnyL_take (bl := [9, 10, 12]) (i := 8) (v := (.slice bo m cb)) (by kernel_rfl) rfl (by kernel_rfl) (by kernel_rfl) (by kernel_rfl) (fun _ _ _ h => h) (Or.inl ⟨by kernel_rfl, ?_⟩) hH ?_
      · intro w1 hB
        obtain ⟨p0, p1, p2, -, -, -⟩ := at_block (carry X2.out hB)
        go_simp
      change wpAnyL _ _ _ _ _ _ _ _ (Act.put _ (some 26) _) _
      try simp only [Act.put, List.setIfInBounds_toArray, List.set_cons_zero, List.set_cons_succ]
      refine wpAnyL_ready (rs := [2, 6, 11]) (by kernel_rfl) (by simp) ?_
      refine AllReadyL.cons rfl (fun K hK => ?_) (AllReadyL.cons rfl (fun K hK => ?_) (AllReadyL.cons rfl (fun K hK => ?_) AllReadyL.nil))
      · go_simp
        obtain ⟨V2, hV2⟩ : ∃ W, W = (W2.alloc (.cells #[] 35)).drew := ⟨_, rfl⟩
        obtain ⟨l2, hl2⟩ : ∃ g, g = W2.heap.size := ⟨_, rfl⟩
        have k2 : Hid (V2.heap[l2]? = some (.cells #[] 35 (0, 0))) := by unfold Hid; rw [hV2, hl2]; exact heap_alloc_new W2 (.cells #[] 35)
        have b2 : Below W2.heap.size W2 V2 := by rw [hV2]; exact (below_new W2 _).drew
        have n2 : Hid (W2.heap.size ≤ l2) := by unfold Hid; rw [hl2]; exact Nat.le_refl _
        try rw [← hV2]
        try rw [← hl2]
        try rw [← hV2]
        clear hV2 hl2
        try go_simp
        refine hK.out _ _ b2 (fun hH2 => ?_)
        clear hK K
        try simp only [Act.put, List.setIfInBounds_toArray, List.set_cons_zero, List.set_cons_succ]
        refine wpAnyL_ready (rs := [5, 6, 11]) (by kernel_rfl) (by simp) ?_
        refine AllReadyL.cons rfl (fun K hK => ?_) (AllReadyL.cons rfl (fun K hK => ?_) (AllReadyL.cons rfl (fun K hK => ?_) AllReadyL.nil))
        · refine wp_append_lims (.tmp 20) (.tmp 22) 23 (by rfl) Tryz.underlying23 (B := W2.heap.size) (by rfl) k2.out (by rfl) (HRX.out.1.below hH2) HN.out HLN.out.1 n2.out (Below.size hH2) ?_
          intro pa c1 V5 F5 g5
          have b5 : Below W2.heap.size W2 V5 := keepB g5 hH2 (Nat.le_refl _)
          replace F5 := Lib.hid F5
          replace k2 := Lib.hid (carry k2.out g5)
          clear g5
          try go_simp
          refine hK.out _ _ b5 (fun hH5 => ?_)
          clear hK K
          try simp only [Act.put, List.setIfInBounds_toArray, List.set_cons_zero, List.set_cons_succ]
          refine wpAnyL_ready (rs := [6, 11]) (by kernel_rfl) (by simp) ?_
          refine AllReadyL.cons rfl (fun K hK => ?_) (AllReadyL.cons rfl (fun K hK => ?_) AllReadyL.nil)
          · go_simp
            obtain ⟨V6, hV6⟩ : ∃ W, W = V5.alloc (.cells #[] 35) := ⟨_, rfl⟩
            obtain ⟨l6, hl6⟩ : ∃ g, g = V5.heap.size := ⟨_, rfl⟩
            have k6 : Hid (V6.heap[l6]? = some (.cells #[] 35 (0, 0))) := by unfold Hid; rw [hV6, hl6]; exact heap_alloc_new V5 (.cells #[] 35)
            have b6 : Below W2.heap.size W2 V6 := by rw [hV6]; exact Below.alloc hH5 (Below.size hH5) _
            have n6 : Hid (W2.heap.size ≤ l6) := by unfold Hid; rw [hl6]; exact Below.size hH5
            have g6 : Below V5.heap.size V5 V6 := by rw [hV6]; exact below_new V5 _
            replace k2 := Lib.hid (carry k2.out g6)
            replace F5 := Lib.hid (F5.out.below g6)
            clear g6
            try rw [← hV6]
            try rw [← hl6]
            try rw [← hV6]
            clear hV6 hl6
            try go_simp
            refine hK.out _ _ b6 (fun hH6 => ?_)
            clear hK K
            try simp only [Act.put, List.setIfInBounds_toArray, List.set_cons_zero, List.set_cons_succ]
            refine wpAnyL_ready (rs := [9, 11]) (by kernel_rfl) (by simp) ?_
            refine AllReadyL.cons rfl (fun K hK => ?_) (AllReadyL.cons rfl (fun K hK => ?_) AllReadyL.nil)
            · refine wp_append_lims (.tmp 24) (.tmp 26) 23 (by rfl) Tryz.underlying23 (B := W2.heap.size) (by rfl) k6.out (by rfl) (HRX.out.2.below hH6) HM.out HLN.out.2 n6.out (Below.size hH6) ?_
              intro pb c2 V9 F9 g9
              have b9 : Below W2.heap.size W2 V9 := keepB g9 hH6 (Nat.le_refl _)
              replace F9 := Lib.hid F9
              replace k2 := Lib.hid (carry k2.out g9)
              replace F5 := Lib.hid (F5.out.below g9)
              replace k6 := Lib.hid (carry k6.out g9)
              clear g9
              try go_simp
              refine hK.out _ _ b9 (fun hH9 => ?_)
              clear hK K
              try simp only [Act.put, List.setIfInBounds_toArray, List.set_cons_zero, List.set_cons_succ]
              refine wpAnyL_pure (i := 10) (v := (.agg #[.bool s, .slice pa n c1, .slice pb m c2])) rfl (by kernel_rfl) (by kernel_rfl) (by kernel_rfl) (fun _ _ _ h => h) (Or.inl ⟨by kernel_rfl, ?_⟩) ?_
              · intro w1 hB
                go_simp
              change wpAnyL _ _ _ _ _ _ _ _ (Act.put _ (some 28) _) _
              try simp only [Act.put, List.setIfInBounds_toArray, List.set_cons_zero, List.set_cons_succ]
              refine wpAnyL_ready (rs := [11]) (by kernel_rfl) (by simp) ?_
              refine AllReadyL.cons rfl (fun K hK => ?_) AllReadyL.nil
              go_simp
              obtain ⟨V11, hV11⟩ : ∃ W, W = V9.alloc (.cells #[.bool false, .slice none 0 0, .slice none 0 0] 25) := ⟨_, rfl⟩
              obtain ⟨l11, hl11⟩ : ∃ g, g = V9.heap.size := ⟨_, rfl⟩
              have k11 : Hid (V11.heap[l11]? = some (.cells #[.bool false, .slice none 0 0, .slice none 0 0] 25 (0, 0))) := by unfold Hid; rw [hV11, hl11]; exact heap_alloc_new V9 (.cells #[.bool false, .slice none 0 0, .slice none 0 0] 25)
              have b11 : Below W2.heap.size W2 V11 := by rw [hV11]; exact Below.alloc hH9 (Below.size hH9) _
              have n11 : Hid (W2.heap.size ≤ l11) := by unfold Hid; rw [hl11]; exact Below.size hH9
              have g11 : Below V9.heap.size V9 V11 := by rw [hV11]; exact below_new V9 _
              replace k2 := Lib.hid (carry k2.out g11)
              replace F5 := Lib.hid (F5.out.below g11)
              replace k6 := Lib.hid (carry k6.out g11)
              replace F9 := Lib.hid (F9.out.below g11)
              clear g11
              try rw [← hV11]
              try rw [← hl11]
              try rw [← hV11]
              clear hV11 hl11
              try go_simp
              refine hK.out _ _ b11 (fun hH11 => ?_)
              clear hK K
              try simp only [Act.put, List.setIfInBounds_toArray, List.set_cons_zero, List.set_cons_succ]
              refine wpAnyL_ready (rs := [12]) (by kernel_rfl) (by simp) ?_
              refine AllReadyL.consLate (by decide) rfl (fun K hK => ?_) AllReadyL.nil
              go_simp
              obtain ⟨o0, o1, o2, z0, z1, z2⟩ := at_block k11.out
              go_simp
              try go_simp
              refine hK.out _ _ ?_
              clear hK K
              try simp only [Act.put, List.setIfInBounds_toArray, List.set_cons_zero, List.set_cons_succ]
              refine wpAnyL_done (by kernel_rfl) ?_ _
              go_wp2_with fail
              go_meet
              exact ⟨l11, pa, c1, pb, c2, rfl, set3_at k11.out _ _ _, ⟨(F5.out.put3 k11.out _ _ _).rd, (F9.out.put3 k11.out _ _ _).rd⟩, below3 hH11 n11.out _ _ _⟩
            · go_simp
              obtain ⟨V11, hV11⟩ : ∃ W, W = V6.alloc (.cells #[.bool false, .slice none 0 0, .slice none 0 0] 25) := ⟨_, rfl⟩
              obtain ⟨l11, hl11⟩ : ∃ g, g = V6.heap.size := ⟨_, rfl⟩
              have k11 : Hid (V11.heap[l11]? = some (.cells #[.bool false, .slice none 0 0, .slice none 0 0] 25 (0, 0))) := by unfold Hid; rw [hV11, hl11]; exact heap_alloc_new V6 (.cells #[.bool false, .slice none 0 0, .slice none 0 0] 25)
              have b11 : Below W2.heap.size W2 V11 := by rw [hV11]; exact Below.alloc hH6 (Below.size hH6) _
              have n11 : Hid (W2.heap.size ≤ l11) := by unfold Hid; rw [hl11]; exact Below.size hH6
              have g11 : Below V6.heap.size V6 V11 := by rw [hV11]; exact below_new V6 _
              replace k2 := Lib.hid (carry k2.out g11)
              replace F5 := Lib.hid (F5.out.below g11)
              replace k6 := Lib.hid (carry k6.out g11)
              clear g11
              try rw [← hV11]
              try rw [← hl11]
              try rw [← hV11]
              clear hV11 hl11
              try go_simp
              refine hK.out _ _ b11 (fun hH11 => ?_)
              clear hK K
              try simp only [Act.put, List.setIfInBounds_toArray, List.set_cons_zero, List.set_cons_succ]
              refine wpAnyL_ready (rs := [9]) (by kernel_rfl) (by simp) ?_
              refine AllReadyL.cons rfl (fun K hK => ?_) AllReadyL.nil
              refine wp_append_lims (.tmp 24) (.tmp 26) 23 (by rfl) Tryz.underlying23 (B := W2.heap.size) (by rfl) k6.out (by rfl) (HRX.out.2.below hH11) HM.out HLN.out.2 n6.out (Below.size hH11) ?_
              intro pb c2 V9 F9 g9
              have b9 : Below W2.heap.size W2 V9 := keepB g9 hH11 (Nat.le_refl _)
              replace F9 := Lib.hid F9
              replace k2 := Lib.hid (carry k2.out g9)
              replace F5 := Lib.hid (F5.out.below g9)
              replace k6 := Lib.hid (carry k6.out g9)
              replace k11 := Lib.hid (carry k11.out g9)
              clear g9
              try go_simp
              refine hK.out _ _ b9 (fun hH9 => ?_)
              clear hK K
              try simp only [Act.put, List.setIfInBounds_toArray, List.set_cons_zero, List.set_cons_succ]
              refine wpAnyL_pure (i := 10) (v := (.agg #[.bool s, .slice pa n c1, .slice pb m c2])) rfl (by kernel_rfl) (by kernel_rfl) (by kernel_rfl) (fun _ _ _ h => h) (Or.inl ⟨by kernel_rfl, ?_⟩) ?_
              · intro w1 hB
                go_simp
              change wpAnyL _ _ _ _ _ _ _ _ (Act.put _ (some 28) _) _
              try simp only [Act.put, List.setIfInBounds_toArray, List.set_cons_zero, List.set_cons_succ]
              refine wpAnyL_ready (rs := [12]) (by kernel_rfl) (by simp) ?_
              refine AllReadyL.consLate (by decide) rfl (fun K hK => ?_) AllReadyL.nil
              go_simp
              obtain ⟨o0, o1, o2, z0, z1, z2⟩ := at_block k11.out
              go_simp
              try go_simp
              refine hK.out _ _ ?_
              clear hK K
              try simp only [Act.put, List.setIfInBounds_toArray, List.set_cons_zero, List.set_cons_succ]
              refine wpAnyL_done (by kernel_rfl) ?_ _
              go_wp2_with fail
              go_meet
              exact ⟨l11, pa, c1, pb, c2, rfl, set3_at k11.out _ _ _, ⟨(F5.out.put3 k11.out _ _ _).rd, (F9.out.put3 k11.out _ _ _).rd⟩, below3 hH9 n11.out _ _ _⟩
          · go_simp
            obtain ⟨V11, hV11⟩ : ∃ W, W = V5.alloc (.cells #[.bool false, .slice none 0 0, .slice none 0 0] 25) := ⟨_, rfl⟩
            obtain ⟨l11, hl11⟩ : ∃ g, g = V5.heap.size := ⟨_, rfl⟩
            have k11 : Hid (V11.heap[l11]? = some (.cells #[.bool false, .slice none 0 0, .slice none 0 0] 25 (0, 0))) := by unfold Hid; rw [hV11, hl11]; exact heap_alloc_new V5 (.cells #[.bool false, .slice none 0 0, .slice none 0 0] 25)
            have b11 : Below W2.heap.size W2 V11 := by rw [hV11]; exact Below.alloc hH5 (Below.size hH5) _
            have n11 : Hid (W2.heap.size ≤ l11) := by unfold Hid; rw [hl11]; exact Below.size hH5
            have g11 : Below V5.heap.size V5 V11 := by rw [hV11]; exact below_new V5 _
            replace k2 := Lib.hid (carry k2.out g11)
            replace F5 := Lib.hid (F5.out.below g11)
            clear g11
            try rw [← hV11]
            try rw [← hl11]
            try rw [← hV11]
            clear hV11 hl11
            try go_simp
            refine hK.out _ _ b11 (fun hH11 => ?_)
            clear hK K
            try simp only [Act.put, List.setIfInBounds_toArray, List.set_cons_zero, List.set_cons_succ]
            refine wpAnyL_ready (rs := [6]) (by kernel_rfl) (by simp) ?_
            refine AllReadyL.cons rfl (fun K hK => ?_) AllReadyL.nil
            go_simp
            obtain ⟨V6, hV6⟩ : ∃ W, W = V11.alloc (.cells #[] 35) := ⟨_, rfl⟩
            obtain ⟨l6, hl6⟩ : ∃ g, g = V11.heap.size := ⟨_, rfl⟩
            have k6 : Hid (V6.heap[l6]? = some (.cells #[] 35 (0, 0))) := by unfold Hid; rw [hV6, hl6]; exact heap_alloc_new V11 (.cells #[] 35)
            have b6 : Below W2.heap.size W2 V6 := by rw [hV6]; exact Below.alloc hH11 (Below.size hH11) _
            have n6 : Hid (W2.heap.size ≤ l6) := by unfold Hid; rw [hl6]; exact Below.size hH11
            have g6 : Below V11.heap.size V11 V6 := by rw [hV6]; exact below_new V11 _
            replace k2 := Lib.hid (carry k2.out g6)
            replace F5 := Lib.hid (F5.out.below g6)
            replace k11 := Lib.hid (carry k11.out g6)
            clear g6
            try rw [← hV6]
            try rw [← hl6]
            try rw [← hV6]
            clear hV6 hl6
            try go_simp
            refine hK.out _ _ b6 (fun hH6 => ?_)
            clear hK K
            try simp only [Act.put, List.setIfInBounds_toArray, List.set_cons_zero, List.set_cons_succ]
            refine wpAnyL_ready (rs := [9]) (by kernel_rfl) (by simp) ?_
            refine AllReadyL.cons rfl (fun K hK => ?_) AllReadyL.nil
            refine wp_append_lims (.tmp 24) (.tmp 26) 23 (by rfl) Tryz.underlying23 (B := W2.heap.size) (by rfl) k6.out (by rfl) (HRX.out.2.below hH6) HM.out HLN.out.2 n6.out (Below.size hH6) ?_
            intro pb c2 V9 F9 g9
            have b9 : Below W2.heap.size W2 V9 := keepB g9 hH6 (Nat.le_refl _)
            replace F9 := Lib.hid F9
            replace k2 := Lib.hid (carry k2.out g9)
            replace F5 := Lib.hid (F5.out.below g9)
            replace k11 := Lib.hid (carry k11.out g9)
            replace k6 := Lib.hid (carry k6.out g9)
            clear g9
            try go_simp
            refine hK.out _ _ b9 (fun hH9 => ?_)
            clear hK K
            try simp only [Act.put, List.setIfInBounds_toArray, List.set_cons_zero, List.set_cons_succ]
            refine wpAnyL_pure (i := 10) (v := (.agg #[.bool s, .slice pa n c1, .slice pb m c2])) rfl (by kernel_rfl) (by kernel_rfl) (by kernel_rfl) (fun _ _ _ h => h) (Or.inl ⟨by kernel_rfl, ?_⟩) ?_
            · intro w1 hB
              go_simp
            change wpAnyL _ _ _ _ _ _ _ _ (Act.put _ (some 28) _) _
            try simp only [Act.put, List.setIfInBounds_toArray, List.set_cons_zero, List.set_cons_succ]
            refine wpAnyL_ready (rs := [12]) (by kernel_rfl) (by simp) ?_
            refine AllReadyL.consLate (by decide) rfl (fun K hK => ?_) AllReadyL.nil
            go_simp
            obtain ⟨o0, o1, o2, z0, z1, z2⟩ := at_block k11.out
            go_simp
            try go_simp
            refine hK.out _ _ ?_
            clear hK K
            try simp only [Act.put, List.setIfInBounds_toArray, List.set_cons_zero, List.set_cons_succ]
            refine wpAnyL_done (by kernel_rfl) ?_ _
            go_wp2_with fail
            go_meet
            exact ⟨l11, pa, c1, pb, c2, rfl, set3_at k11.out _ _ _, ⟨(F5.out.put3 k11.out _ _ _).rd, (F9.out.put3 k11.out _ _ _).rd⟩, below3 hH9 n11.out _ _ _⟩
        · go_simp
          obtain ⟨V6, hV6⟩ : ∃ W, W = V2.alloc (.cells #[] 35) := ⟨_, rfl⟩
          obtain ⟨l6, hl6⟩ : ∃ g, g = V2.heap.size := ⟨_, rfl⟩
          have k6 : Hid (V6.heap[l6]? = some (.cells #[] 35 (0, 0))) := by unfold Hid; rw [hV6, hl6]; exact heap_alloc_new V2 (.cells #[] 35)
          have b6 : Below W2.heap.size W2 V6 := by rw [hV6]; exact Below.alloc hH2 (Below.size hH2) _
          have n6 : Hid (W2.heap.size ≤ l6) := by unfold Hid; rw [hl6]; exact Below.size hH2
          have g6 : Below V2.heap.size V2 V6 := by rw [hV6]; exact below_new V2 _
          replace k2 := Lib.hid (carry k2.out g6)
          clear g6
          try rw [← hV6]
          try rw [← hl6]
          try rw [← hV6]
          clear hV6 hl6
          try go_simp
          refine hK.out _ _ b6 (fun hH6 => ?_)
          clear hK K
          try simp only [Act.put, List.setIfInBounds_toArray, List.set_cons_zero, List.set_cons_succ]
          refine wpAnyL_ready (rs := [5, 11]) (by kernel_rfl) (by simp) ?_
          refine AllReadyL.cons rfl (fun K hK => ?_) (AllReadyL.cons rfl (fun K hK => ?_) AllReadyL.nil)
          · refine wp_append_lims (.tmp 20) (.tmp 22) 23 (by rfl) Tryz.underlying23 (B := W2.heap.size) (by rfl) k2.out (by rfl) (HRX.out.1.below hH6) HN.out HLN.out.1 n2.out (Below.size hH6) ?_
            intro pa c1 V5 F5 g5
            have b5 : Below W2.heap.size W2 V5 := keepB g5 hH6 (Nat.le_refl _)
            replace F5 := Lib.hid F5
            replace k2 := Lib.hid (carry k2.out g5)
            replace k6 := Lib.hid (carry k6.out g5)
            clear g5
            try go_simp
            refine hK.out _ _ b5 (fun hH5 => ?_)
            clear hK K
            try simp only [Act.put, List.setIfInBounds_toArray, List.set_cons_zero, List.set_cons_succ]
            refine wpAnyL_ready (rs := [9, 11]) (by kernel_rfl) (by simp) ?_
            refine AllReadyL.cons rfl (fun K hK => ?_) (AllReadyL.cons rfl (fun K hK => ?_) AllReadyL.nil)
            · refine wp_append_lims (.tmp 24) (.tmp 26) 23 (by rfl) Tryz.underlying23 (B := W2.heap.size) (by rfl) k6.out (by rfl) (HRX.out.2.below hH5) HM.out HLN.out.2 n6.out (Below.size hH5) ?_
              intro pb c2 V9 F9 g9
              have b9 : Below W2.heap.size W2 V9 := keepB g9 hH5 (Nat.le_refl _)
              replace F9 := Lib.hid F9
              replace k2 := Lib.hid (carry k2.out g9)
              replace k6 := Lib.hid (carry k6.out g9)
              replace F5 := Lib.hid (F5.out.below g9)
              clear g9
              try go_simp
              refine hK.out _ _ b9 (fun hH9 => ?_)
              clear hK K
              try simp only [Act.put, List.setIfInBounds_toArray, List.set_cons_zero, List.set_cons_succ]
              refine wpAnyL_pure (i := 10) (v := (.agg #[.bool s, .slice pa n c1, .slice pb m c2])) rfl (by kernel_rfl) (by kernel_rfl) (by kernel_rfl) (fun _ _ _ h => h) (Or.inl ⟨by kernel_rfl, ?_⟩) ?_
              · intro w1 hB
                go_simp
              change wpAnyL _ _ _ _ _ _ _ _ (Act.put _ (some 28) _) _
              try simp only [Act.put, List.setIfInBounds_toArray, List.set_cons_zero, List.set_cons_succ]
              refine wpAnyL_ready (rs := [11]) (by kernel_rfl) (by simp) ?_
              refine AllReadyL.cons rfl (fun K hK => ?_) AllReadyL.nil
              go_simp
              obtain ⟨V11, hV11⟩ : ∃ W, W = V9.alloc (.cells #[.bool false, .slice none 0 0, .slice none 0 0] 25) := ⟨_, rfl⟩
              obtain ⟨l11, hl11⟩ : ∃ g, g = V9.heap.size := ⟨_, rfl⟩
              have k11 : Hid (V11.heap[l11]? = some (.cells #[.bool false, .slice none 0 0, .slice none 0 0] 25 (0, 0))) := by unfold Hid; rw [hV11, hl11]; exact heap_alloc_new V9 (.cells #[.bool false, .slice none 0 0, .slice none 0 0] 25)
              have b11 : Below W2.heap.size W2 V11 := by rw [hV11]; exact Below.alloc hH9 (Below.size hH9) _
              have n11 : Hid (W2.heap.size ≤ l11) := by unfold Hid; rw [hl11]; exact Below.size hH9
              have g11 : Below V9.heap.size V9 V11 := by rw [hV11]; exact below_new V9 _
              replace k2 := Lib.hid (carry k2.out g11)
              replace k6 := Lib.hid (carry k6.out g11)
              replace F5 := Lib.hid (F5.out.below g11)
              replace F9 := Lib.hid (F9.out.below g11)
              clear g11
              try rw [← hV11]
              try rw [← hl11]
              try rw [← hV11]
              clear hV11 hl11
              try go_simp
              refine hK.out _ _ b11 (fun hH11 => ?_)
              clear hK K
              try simp only [Act.put, List.setIfInBounds_toArray, List.set_cons_zero, List.set_cons_succ]
              refine wpAnyL_ready (rs := [12]) (by kernel_rfl) (by simp) ?_
              refine AllReadyL.consLate (by decide) rfl (fun K hK => ?_) AllReadyL.nil
              go_simp
              obtain ⟨o0, o1, o2, z0, z1, z2⟩ := at_block k11.out
              go_simp
              try go_simp
              refine hK.out _ _ ?_
              clear hK K
              try simp only [Act.put, List.setIfInBounds_toArray, List.set_cons_zero, List.set_cons_succ]
              refine wpAnyL_done (by kernel_rfl) ?_ _
              go_wp2_with fail
              go_meet
              exact ⟨l11, pa, c1, pb, c2, rfl, set3_at k11.out _ _ _, ⟨(F5.out.put3 k11.out _ _ _).rd, (F9.out.put3 k11.out _ _ _).rd⟩, below3 hH11 n11.out _ _ _⟩
            · go_simp
              obtain ⟨V11, hV11⟩ : ∃ W, W = V5.alloc (.cells #[.bool false, .slice none 0 0, .slice none 0 0] 25) := ⟨_, rfl⟩
              obtain ⟨l11, hl11⟩ : ∃ g, g = V5.heap.size := ⟨_, rfl⟩
              have k11 : Hid (V11.heap[l11]? = some (.cells #[.bool false, .slice none 0 0, .slice none 0 0] 25 (0, 0))) := by unfold Hid; rw [hV11, hl11]; exact heap_alloc_new V5 (.cells #[.bool false, .slice none 0 0, .slice none 0 0] 25)
              have b11 : Below W2.heap.size W2 V11 := by rw [hV11]; exact Below.alloc hH5 (Below.size hH5) _
              have n11 : Hid (W2.heap.size ≤ l11) := by unfold Hid; rw [hl11]; exact Below.size hH5
              have g11 : Below V5.heap.size V5 V11 := by rw [hV11]; exact below_new V5 _
              replace k2 := Lib.hid (carry k2.out g11)
              replace k6 := Lib.hid (carry k6.out g11)
              replace F5 := Lib.hid (F5.out.below g11)
              clear g11
              try rw [← hV11]
              try rw [← hl11]
              try rw [← hV11]
              clear hV11 hl11
              try go_simp
              refine hK.out _ _ b11 (fun hH11 => ?_)
              clear hK K
              try simp only [Act.put, List.setIfInBounds_toArray, List.set_cons_zero, List.set_cons_succ]
              refine wpAnyL_ready (rs := [9]) (by kernel_rfl) (by simp) ?_
              refine AllReadyL.cons rfl (fun K hK => ?_) AllReadyL.nil
              refine wp_append_lims (.tmp 24) (.tmp 26) 23 (by rfl) Tryz.underlying23 (B := W2.heap.size) (by rfl) k6.out (by rfl) (HRX.out.2.below hH11) HM.out HLN.out.2 n6.out (Below.size hH11) ?_
              intro pb c2 V9 F9 g9
              have b9 : Below W2.heap.size W2 V9 := keepB g9 hH11 (Nat.le_refl _)
              replace F9 := Lib.hid F9
              replace k2 := Lib.hid (carry k2.out g9)
              replace k6 := Lib.hid (carry k6.out g9)
              replace F5 := Lib.hid (F5.out.below g9)
              replace k11 := Lib.hid (carry k11.out g9)
              clear g9
              try go_simp
              refine hK.out _ _ b9 (fun hH9 => ?_)
              clear hK K
              try simp only [Act.put, List.setIfInBounds_toArray, List.set_cons_zero, List.set_cons_succ]
              refine wpAnyL_pure (i := 10) (v := (.agg #[.bool s, .slice pa n c1, .slice pb m c2])) rfl (by kernel_rfl) (by kernel_rfl) (by kernel_rfl) (fun _ _ _ h => h) (Or.inl ⟨by kernel_rfl, ?_⟩) ?_
              · intro w1 hB
                go_simp
              change wpAnyL _ _ _ _ _ _ _ _ (Act.put _ (some 28) _) _
              try simp only [Act.put, List.setIfInBounds_toArray, List.set_cons_zero, List.set_cons_succ]
              refine wpAnyL_ready (rs := [12]) (by kernel_rfl) (by simp) ?_
              refine AllReadyL.consLate (by decide) rfl (fun K hK => ?_) AllReadyL.nil
              go_simp
              obtain ⟨o0, o1, o2, z0, z1, z2⟩ := at_block k11.out
              go_simp
              try go_simp
              refine hK.out _ _ ?_
              clear hK K
              try simp only [Act.put, List.setIfInBounds_toArray, List.set_cons_zero, List.set_cons_succ]
              refine wpAnyL_done (by kernel_rfl) ?_ _
              go_wp2_with fail
              go_meet
              exact ⟨l11, pa, c1, pb, c2, rfl, set3_at k11.out _ _ _, ⟨(F5.out.put3 k11.out _ _ _).rd, (F9.out.put3 k11.out _ _ _).rd⟩, below3 hH9 n11.out _ _ _⟩
          · go_simp
            obtain ⟨V11, hV11⟩ : ∃ W, W = V6.alloc (.cells #[.bool false, .slice none 0 0, .slice none 0 0] 25) := ⟨_, rfl⟩
            obtain ⟨l11, hl11⟩ : ∃ g, g = V6.heap.size := ⟨_, rfl⟩
            have k11 : Hid (V11.heap[l11]? = some (.cells #[.bool false, .slice none 0 0, .slice none 0 0] 25 (0, 0))) := by unfold Hid; rw [hV11, hl11]; exact heap_alloc_new V6 (.cells #[.bool false, .slice none 0 0, .slice none 0 0] 25)
            have b11 : Below W2.heap.size W2 V11 := by rw [hV11]; exact Below.alloc hH6 (Below.size hH6) _
            have n11 : Hid (W2.heap.size ≤ l11) := by unfold Hid; rw [hl11]; exact Below.size hH6
            have g11 : Below V6.heap.size V6 V11 := by rw [hV11]; exact below_new V6 _
            replace k2 := Lib.hid (carry k2.out g11)
            replace k6 := Lib.hid (carry k6.out g11)
            clear g11
            try rw [← hV11]
            try rw [← hl11]
            try rw [← hV11]
            clear hV11 hl11
            try go_simp
            refine hK.out _ _ b11 (fun hH11 => ?_)
            clear hK K
            try simp only [Act.put, List.setIfInBounds_toArray, List.set_cons_zero, List.set_cons_succ]
            refine wpAnyL_ready (rs := [5]) (by kernel_rfl) (by simp) ?_
            refine AllReadyL.cons rfl (fun K hK => ?_) AllReadyL.nil
            refine wp_append_lims (.tmp 20) (.tmp 22) 23 (by rfl) Tryz.underlying23 (B := W2.heap.size) (by rfl) k2.out (by rfl) (HRX.out.1.below hH11) HN.out HLN.out.1 n2.out (Below.size hH11) ?_
            intro pa c1 V5 F5 g5
            have b5 : Below W2.heap.size W2 V5 := keepB g5 hH11 (Nat.le_refl _)
            replace F5 := Lib.hid F5
            replace k2 := Lib.hid (carry k2.out g5)
            replace k6 := Lib.hid (carry k6.out g5)
            replace k11 := Lib.hid (carry k11.out g5)
            clear g5
            try go_simp
            refine hK.out _ _ b5 (fun hH5 => ?_)
            clear hK K
            try simp only [Act.put, List.setIfInBounds_toArray, List.set_cons_zero, List.set_cons_succ]
            refine wpAnyL_ready (rs := [9]) (by kernel_rfl) (by simp) ?_
            refine AllReadyL.cons rfl (fun K hK => ?_) AllReadyL.nil
            refine wp_append_lims (.tmp 24) (.tmp 26) 23 (by rfl) Tryz.underlying23 (B := W2.heap.size) (by rfl) k6.out (by rfl) (HRX.out.2.below hH5) HM.out HLN.out.2 n6.out (Below.size hH5) ?_
            intro pb c2 V9 F9 g9
            have b9 : Below W2.heap.size W2 V9 := keepB g9 hH5 (Nat.le_refl _)
            replace F9 := Lib.hid F9
            replace k2 := Lib.hid (carry k2.out g9)
            replace k6 := Lib.hid (carry k6.out g9)
            replace k11 := Lib.hid (carry k11.out g9)
            replace F5 := Lib.hid (F5.out.below g9)
            clear g9
            try go_simp
            refine hK.out _ _ b9 (fun hH9 => ?_)
            clear hK K
            try simp only [Act.put, List.setIfInBounds_toArray, List.set_cons_zero, List.set_cons_succ]
            refine wpAnyL_pure (i := 10) (v := (.agg #[.bool s, .slice pa n c1, .slice pb m c2])) rfl (by kernel_rfl) (by kernel_rfl) (by kernel_rfl) (fun _ _ _ h => h) (Or.inl ⟨by kernel_rfl, ?_⟩) ?_
            · intro w1 hB
              go_simp
            change wpAnyL _ _ _ _ _ _ _ _ (Act.put _ (some 28) _) _
            try simp only [Act.put, List.setIfInBounds_toArray, List.set_cons_zero, List.set_cons_succ]
            refine wpAnyL_ready (rs := [12]) (by kernel_rfl) (by simp) ?_
            refine AllReadyL.consLate (by decide) rfl (fun K hK => ?_) AllReadyL.nil
            go_simp
            obtain ⟨o0, o1, o2, z0, z1, z2⟩ := at_block k11.out
            go_simp
            try go_simp
            refine hK.out _ _ ?_
            clear hK K
            try simp only [Act.put, List.setIfInBounds_toArray, List.set_cons_zero, List.set_cons_succ]
            refine wpAnyL_done (by kernel_rfl) ?_ _
            go_wp2_with fail
            go_meet
            exact ⟨l11, pa, c1, pb, c2, rfl, set3_at k11.out _ _ _, ⟨(F5.out.put3 k11.out _ _ _).rd, (F9.out.put3 k11.out _ _ _).rd⟩, below3 hH9 n11.out _ _ _⟩
        · go_simp
          obtain ⟨V11, hV11⟩ : ∃ W, W = V2.alloc (.cells #[.bool false, .slice none 0 0, .slice none 0 0] 25) := ⟨_, rfl⟩
          obtain ⟨l11, hl11⟩ : ∃ g, g = V2.heap.size := ⟨_, rfl⟩
          have k11 : Hid (V11.heap[l11]? = some (.cells #[.bool false, .slice none 0 0, .slice none 0 0] 25 (0, 0))) := by unfold Hid; rw [hV11, hl11]; exact heap_alloc_new V2 (.cells #[.bool false, .slice none 0 0, .slice none 0 0] 25)
          have b11 : Below W2.heap.size W2 V11 := by rw [hV11]; exact Below.alloc hH2 (Below.size hH2) _
          have n11 : Hid (W2.heap.size ≤ l11) := by unfold Hid; rw [hl11]; exact Below.size hH2
          have g11 : Below V2.heap.size V2 V11 := by rw [hV11]; exact below_new V2 _
          replace k2 := Lib.hid (carry k2.out g11)
          clear g11
          try rw [← hV11]
          try rw [← hl11]
          try rw [← hV11]
          clear hV11 hl11
          try go_simp
          refine hK.out _ _ b11 (fun hH11 => ?_)
          clear hK K
          try simp only [Act.put, List.setIfInBounds_toArray, List.set_cons_zero, List.set_cons_succ]
          refine wpAnyL_ready (rs := [5, 6]) (by kernel_rfl) (by simp) ?_
          refine AllReadyL.cons rfl (fun K hK => ?_) (AllReadyL.cons rfl (fun K hK => ?_) AllReadyL.nil)
          · refine wp_append_lims (.tmp 20) (.tmp 22) 23 (by rfl) Tryz.underlying23 (B := W2.heap.size) (by rfl) k2.out (by rfl) (HRX.out.1.below hH11) HN.out HLN.out.1 n2.out (Below.size hH11) ?_
            intro pa c1 V5 F5 g5
            have b5 : Below W2.heap.size W2 V5 := keepB g5 hH11 (Nat.le_refl _)
            replace F5 := Lib.hid F5
            replace k2 := Lib.hid (carry k2.out g5)
            replace k11 := Lib.hid (carry k11.out g5)
            clear g5
            try go_simp
            refine hK.out _ _ b5 (fun hH5 => ?_)
            clear hK K
            try simp only [Act.put, List.setIfInBounds_toArray, List.set_cons_zero, List.set_cons_succ]
            refine wpAnyL_ready (rs := [6]) (by kernel_rfl) (by simp) ?_
            refine AllReadyL.cons rfl (fun K hK => ?_) AllReadyL.nil
            go_simp
            obtain ⟨V6, hV6⟩ : ∃ W, W = V5.alloc (.cells #[] 35) := ⟨_, rfl⟩
            obtain ⟨l6, hl6⟩ : ∃ g, g = V5.heap.size := ⟨_, rfl⟩
            have k6 : Hid (V6.heap[l6]? = some (.cells #[] 35 (0, 0))) := by unfold Hid; rw [hV6, hl6]; exact heap_alloc_new V5 (.cells #[] 35)
            have b6 : Below W2.heap.size W2 V6 := by rw [hV6]; exact Below.alloc hH5 (Below.size hH5) _
            have n6 : Hid (W2.heap.size ≤ l6) := by unfold Hid; rw [hl6]; exact Below.size hH5
            have g6 : Below V5.heap.size V5 V6 := by rw [hV6]; exact below_new V5 _
            replace k2 := Lib.hid (carry k2.out g6)
            replace k11 := Lib.hid (carry k11.out g6)
            replace F5 := Lib.hid (F5.out.below g6)
            clear g6
            try rw [← hV6]
            try rw [← hl6]
            try rw [← hV6]
            clear hV6 hl6
            try go_simp
            refine hK.out _ _ b6 (fun hH6 => ?_)
            clear hK K
            try simp only [Act.put, List.setIfInBounds_toArray, List.set_cons_zero, List.set_cons_succ]
            refine wpAnyL_ready (rs := [9]) (by kernel_rfl) (by simp) ?_
            refine AllReadyL.cons rfl (fun K hK => ?_) AllReadyL.nil
            refine wp_append_lims (.tmp 24) (.tmp 26) 23 (by rfl) Tryz.underlying23 (B := W2.heap.size) (by rfl) k6.out (by rfl) (HRX.out.2.below hH6) HM.out HLN.out.2 n6.out (Below.size hH6) ?_
            intro pb c2 V9 F9 g9
            have b9 : Below W2.heap.size W2 V9 := keepB g9 hH6 (Nat.le_refl _)
            replace F9 := Lib.hid F9
            replace k2 := Lib.hid (carry k2.out g9)
            replace k11 := Lib.hid (carry k11.out g9)
            replace F5 := Lib.hid (F5.out.below g9)
            replace k6 := Lib.hid (carry k6.out g9)
            clear g9
            try go_simp
            refine hK.out _ _ b9 (fun hH9 => ?_)
            clear hK K
            try simp only [Act.put, List.setIfInBounds_toArray, List.set_cons_zero, List.set_cons_succ]
            refine wpAnyL_pure (i := 10) (v := (.agg #[.bool s, .slice pa n c1, .slice pb m c2])) rfl (by kernel_rfl) (by kernel_rfl) (by kernel_rfl) (fun _ _ _ h => h) (Or.inl ⟨by kernel_rfl, ?_⟩) ?_
            · intro w1 hB
              go_simp
            change wpAnyL _ _ _ _ _ _ _ _ (Act.put _ (some 28) _) _
            try simp only [Act.put, List.setIfInBounds_toArray, List.set_cons_zero, List.set_cons_succ]
            refine wpAnyL_ready (rs := [12]) (by kernel_rfl) (by simp) ?_
            refine AllReadyL.consLate (by decide) rfl (fun K hK => ?_) AllReadyL.nil
            go_simp
            obtain ⟨o0, o1, o2, z0, z1, z2⟩ := at_block k11.out
            go_simp
            try go_simp
            refine hK.out _ _ ?_
            clear hK K
            try simp only [Act.put, List.setIfInBounds_toArray, List.set_cons_zero, List.set_cons_succ]
            refine wpAnyL_done (by kernel_rfl) ?_ _
            go_wp2_with fail
            go_meet
            exact ⟨l11, pa, c1, pb, c2, rfl, set3_at k11.out _ _ _, ⟨(F5.out.put3 k11.out _ _ _).rd, (F9.out.put3 k11.out _ _ _).rd⟩, below3 hH9 n11.out _ _ _⟩
          · go_simp
            obtain ⟨V6, hV6⟩ : ∃ W, W = V11.alloc (.cells #[] 35) := ⟨_, rfl⟩
            obtain ⟨l6, hl6⟩ : ∃ g, g = V11.heap.size := ⟨_, rfl⟩
            have k6 : Hid (V6.heap[l6]? = some (.cells #[] 35 (0, 0))) := by unfold Hid; rw [hV6, hl6]; exact heap_alloc_new V11 (.cells #[] 35)
            have b6 : Below W2.heap.size W2 V6 := by rw [hV6]; exact Below.alloc hH11 (Below.size hH11) _
            have n6 : Hid (W2.heap.size ≤ l6) := by unfold Hid; rw [hl6]; exact Below.size hH11
            have g6 : Below V11.heap.size V11 V6 := by rw [hV6]; exact below_new V11 _
            replace k2 := Lib.hid (carry k2.out g6)
            replace k11 := Lib.hid (carry k11.out g6)
            clear g6
            try rw [← hV6]
            try rw [← hl6]
            try rw [← hV6]
            clear hV6 hl6
            try go_simp
            refine hK.out _ _ b6 (fun hH6 => ?_)
            clear hK K
            try simp only [Act.put, List.setIfInBounds_toArray, List.set_cons_zero, List.set_cons_succ]
            refine wpAnyL_ready (rs := [5]) (by kernel_rfl) (by simp) ?_
            refine AllReadyL.cons rfl (fun K hK => ?_) AllReadyL.nil
            refine wp_append_lims (.tmp 20) (.tmp 22) 23 (by rfl) Tryz.underlying23 (B := W2.heap.size) (by rfl) k2.out (by rfl) (HRX.out.1.below hH6) HN.out HLN.out.1 n2.out (Below.size hH6) ?_
            intro pa c1 V5 F5 g5
            have b5 : Below W2.heap.size W2 V5 := keepB g5 hH6 (Nat.le_refl _)
            replace F5 := Lib.hid F5
            replace k2 := Lib.hid (carry k2.out g5)
            replace k11 := Lib.hid (carry k11.out g5)
            replace k6 := Lib.hid (carry k6.out g5)
            clear g5
            try go_simp
            refine hK.out _ _ b5 (fun hH5 => ?_)
            clear hK K
            try simp only [Act.put, List.setIfInBounds_toArray, List.set_cons_zero, List.set_cons_succ]
            refine wpAnyL_ready (rs := [9]) (by kernel_rfl) (by simp) ?_
            refine AllReadyL.cons rfl (fun K hK => ?_) AllReadyL.nil
            refine wp_append_lims (.tmp 24) (.tmp 26) 23 (by rfl) Tryz.underlying23 (B := W2.heap.size) (by rfl) k6.out (by rfl) (HRX.out.2.below hH5) HM.out HLN.out.2 n6.out (Below.size hH5) ?_
            intro pb c2 V9 F9 g9
            have b9 : Below W2.heap.size W2 V9 := keepB g9 hH5 (Nat.le_refl _)
            replace F9 := Lib.hid F9
            replace k2 := Lib.hid (carry k2.out g9)
            replace k11 := Lib.hid (carry k11.out g9)
            replace k6 := Lib.hid (carry k6.out g9)
            replace F5 := Lib.hid (F5.out.below g9)
            clear g9
            try go_simp
            refine hK.out _ _ b9 (fun hH9 => ?_)
            clear hK K
            try simp only [Act.put, List.setIfInBounds_toArray, List.set_cons_zero, List.set_cons_succ]
            refine wpAnyL_pure (i := 10) (v := (.agg #[.bool s, .slice pa n c1, .slice pb m c2])) rfl (by kernel_rfl) (by kernel_rfl) (by kernel_rfl) (fun _ _ _ h => h) (Or.inl ⟨by kernel_rfl, ?_⟩) ?_
            · intro w1 hB
              go_simp
            change wpAnyL _ _ _ _ _ _ _ _ (Act.put _ (some 28) _) _
            try simp only [Act.put, List.setIfInBounds_toArray, List.set_cons_zero, List.set_cons_succ]
            refine wpAnyL_ready (rs := [12]) (by kernel_rfl) (by simp) ?_
            refine AllReadyL.consLate (by decide) rfl (fun K hK => ?_) AllReadyL.nil
            go_simp
            obtain ⟨o0, o1, o2, z0, z1, z2⟩ := at_block k11.out
            go_simp
            try go_simp
            refine hK.out _ _ ?_
            clear hK K
            try simp only [Act.put, List.setIfInBounds_toArray, List.set_cons_zero, List.set_cons_succ]
            refine wpAnyL_done (by kernel_rfl) ?_ _
            go_wp2_with fail
            go_meet
            exact ⟨l11, pa, c1, pb, c2, rfl, set3_at k11.out _ _ _, ⟨(F5.out.put3 k11.out _ _ _).rd, (F9.out.put3 k11.out _ _ _).rd⟩, below3 hH9 n11.out _ _ _⟩
      · go_simp
        obtain ⟨V6, hV6⟩ : ∃ W, W = (W2.alloc (.cells #[] 35)).drew := ⟨_, rfl⟩
        obtain ⟨l6, hl6⟩ : ∃ g, g = W2.heap.size := ⟨_, rfl⟩
        have k6 : Hid (V6.heap[l6]? = some (.cells #[] 35 (0, 0))) := by unfold Hid; rw [hV6, hl6]; exact heap_alloc_new W2 (.cells #[] 35)
        have b6 : Below W2.heap.size W2 V6 := by rw [hV6]; exact (below_new W2 _).drew
        have n6 : Hid (W2.heap.size ≤ l6) := by unfold Hid; rw [hl6]; exact Nat.le_refl _
        try rw [← hV6]
        try rw [← hl6]
        try rw [← hV6]
        clear hV6 hl6
        try go_simp
        refine hK.out _ _ b6 (fun hH6 => ?_)
        clear hK K
        try simp only [Act.put, List.setIfInBounds_toArray, List.set_cons_zero, List.set_cons_succ]
        refine wpAnyL_ready (rs := [2, 11]) (by kernel_rfl) (by simp) ?_
        refine AllReadyL.cons rfl (fun K hK => ?_) (AllReadyL.cons rfl (fun K hK => ?_) AllReadyL.nil)
        · go_simp
          obtain ⟨V2, hV2⟩ : ∃ W, W = V6.alloc (.cells #[] 35) := ⟨_, rfl⟩
          obtain ⟨l2, hl2⟩ : ∃ g, g = V6.heap.size := ⟨_, rfl⟩
          have k2 : Hid (V2.heap[l2]? = some (.cells #[] 35 (0, 0))) := by unfold Hid; rw [hV2, hl2]; exact heap_alloc_new V6 (.cells #[] 35)
          have b2 : Below W2.heap.size W2 V2 := by rw [hV2]; exact Below.alloc hH6 (Below.size hH6) _
          have n2 : Hid (W2.heap.size ≤ l2) := by unfold Hid; rw [hl2]; exact Below.size hH6
          have g2 : Below V6.heap.size V6 V2 := by rw [hV2]; exact below_new V6 _
          replace k6 := Lib.hid (carry k6.out g2)
          clear g2
          try rw [← hV2]
          try rw [← hl2]
          try rw [← hV2]
          clear hV2 hl2
          try go_simp
          refine hK.out _ _ b2 (fun hH2 => ?_)
          clear hK K
          try simp only [Act.put, List.setIfInBounds_toArray, List.set_cons_zero, List.set_cons_succ]
          refine wpAnyL_ready (rs := [5, 11]) (by kernel_rfl) (by simp) ?_
          refine AllReadyL.cons rfl (fun K hK => ?_) (AllReadyL.cons rfl (fun K hK => ?_) AllReadyL.nil)
          · refine wp_append_lims (.tmp 20) (.tmp 22) 23 (by rfl) Tryz.underlying23 (B := W2.heap.size) (by rfl) k2.out (by rfl) (HRX.out.1.below hH2) HN.out HLN.out.1 n2.out (Below.size hH2) ?_
            intro pa c1 V5 F5 g5
            have b5 : Below W2.heap.size W2 V5 := keepB g5 hH2 (Nat.le_refl _)
            replace F5 := Lib.hid F5
            replace k6 := Lib.hid (carry k6.out g5)
            replace k2 := Lib.hid (carry k2.out g5)
            clear g5
            try go_simp
            refine hK.out _ _ b5 (fun hH5 => ?_)
            clear hK K
            try simp only [Act.put, List.setIfInBounds_toArray, List.set_cons_zero, List.set_cons_succ]
            refine wpAnyL_ready (rs := [9, 11]) (by kernel_rfl) (by simp) ?_
            refine AllReadyL.cons rfl (fun K hK => ?_) (AllReadyL.cons rfl (fun K hK => ?_) AllReadyL.nil)
            · refine wp_append_lims (.tmp 24) (.tmp 26) 23 (by rfl) Tryz.underlying23 (B := W2.heap.size) (by rfl) k6.out (by rfl) (HRX.out.2.below hH5) HM.out HLN.out.2 n6.out (Below.size hH5) ?_
              intro pb c2 V9 F9 g9
              have b9 : Below W2.heap.size W2 V9 := keepB g9 hH5 (Nat.le_refl _)
              replace F9 := Lib.hid F9
              replace k6 := Lib.hid (carry k6.out g9)
              replace k2 := Lib.hid (carry k2.out g9)
              replace F5 := Lib.hid (F5.out.below g9)
              clear g9
              try go_simp
              refine hK.out _ _ b9 (fun hH9 => ?_)
              clear hK K
              try simp only [Act.put, List.setIfInBounds_toArray, List.set_cons_zero, List.set_cons_succ]
              refine wpAnyL_pure (i := 10) (v := (.agg #[.bool s, .slice pa n c1, .slice pb m c2])) rfl (by kernel_rfl) (by kernel_rfl) (by kernel_rfl) (fun _ _ _ h => h) (Or.inl ⟨by kernel_rfl, ?_⟩) ?_
              · intro w1 hB
                go_simp
              change wpAnyL _ _ _ _ _ _ _ _ (Act.put _ (some 28) _) _
              try simp only [Act.put, List.setIfInBounds_toArray, List.set_cons_zero, List.set_cons_succ]
              refine wpAnyL_ready (rs := [11]) (by kernel_rfl) (by simp) ?_
              refine AllReadyL.cons rfl (fun K hK => ?_) AllReadyL.nil
              go_simp
              obtain ⟨V11, hV11⟩ : ∃ W, W = V9.alloc (.cells #[.bool false, .slice none 0 0, .slice none 0 0] 25) := ⟨_, rfl⟩
              obtain ⟨l11, hl11⟩ : ∃ g, g = V9.heap.size := ⟨_, rfl⟩
              have k11 : Hid (V11.heap[l11]? = some (.cells #[.bool false, .slice none 0 0, .slice none 0 0] 25 (0, 0))) := by unfold Hid; rw [hV11, hl11]; exact heap_alloc_new V9 (.cells #[.bool false, .slice none 0 0, .slice none 0 0] 25)
              have b11 : Below W2.heap.size W2 V11 := by rw [hV11]; exact Below.alloc hH9 (Below.size hH9) _
              have n11 : Hid (W2.heap.size ≤ l11) := by unfold Hid; rw [hl11]; exact Below.size hH9
              have g11 : Below V9.heap.size V9 V11 := by rw [hV11]; exact below_new V9 _
              replace k6 := Lib.hid (carry k6.out g11)
              replace k2 := Lib.hid (carry k2.out g11)
              replace F5 := Lib.hid (F5.out.below g11)
              replace F9 := Lib.hid (F9.out.below g11)
              clear g11
              try rw [← hV11]
              try rw [← hl11]
              try rw [← hV11]
              clear hV11 hl11
              try go_simp
              refine hK.out _ _ b11 (fun hH11 => ?_)
              clear hK K
              try simp only [Act.put, List.setIfInBounds_toArray, List.set_cons_zero, List.set_cons_succ]
              refine wpAnyL_ready (rs := [12]) (by kernel_rfl) (by simp) ?_
              refine AllReadyL.consLate (by decide) rfl (fun K hK => ?_) AllReadyL.nil
              go_simp
              obtain ⟨o0, o1, o2, z0, z1, z2⟩ := at_block k11.out
              go_simp
              try go_simp
              refine hK.out _ _ ?_
              clear hK K
              try simp only [Act.put, List.setIfInBounds_toArray, List.set_cons_zero, List.set_cons_succ]
              refine wpAnyL_done (by kernel_rfl) ?_ _
              go_wp2_with fail
              go_meet
              exact ⟨l11, pa, c1, pb, c2, rfl, set3_at k11.out _ _ _, ⟨(F5.out.put3 k11.out _ _ _).rd, (F9.out.put3 k11.out _ _ _).rd⟩, below3 hH11 n11.out _ _ _⟩
            · go_simp
              obtain ⟨V11, hV11⟩ : ∃ W, W = V5.alloc (.cells #[.bool false, .slice none 0 0, .slice none 0 0] 25) := ⟨_, rfl⟩
              obtain ⟨l11, hl11⟩ : ∃ g, g = V5.heap.size := ⟨_, rfl⟩
              have k11 : Hid (V11.heap[l11]? = some (.cells #[.bool false, .slice none 0 0, .slice none 0 0] 25 (0, 0))) := by unfold Hid; rw [hV11, hl11]; exact heap_alloc_new V5 (.cells #[.bool false, .slice none 0 0, .slice none 0 0] 25)
              have b11 : Below W2.heap.size W2 V11 := by rw [hV11]; exact Below.alloc hH5 (Below.size hH5) _
              have n11 : Hid (W2.heap.size ≤ l11) := by unfold Hid; rw [hl11]; exact Below.size hH5
              have g11 : Below V5.heap.size V5 V11 := by rw [hV11]; exact below_new V5 _
              replace k6 := Lib.hid (carry k6.out g11)
              replace k2 := Lib.hid (carry k2.out g11)
              replace F5 := Lib.hid (F5.out.below g11)
              clear g11
              try rw [← hV11]
              try rw [← hl11]
              try rw [← hV11]
              clear hV11 hl11
              try go_simp
              refine hK.out _ _ b11 (fun hH11 => ?_)
              clear hK K
              try simp only [Act.put, List.setIfInBounds_toArray, List.set_cons_zero, List.set_cons_succ]
              refine wpAnyL_ready (rs := [9]) (by kernel_rfl) (by simp) ?_
              refine AllReadyL.cons rfl (fun K hK => ?_) AllReadyL.nil
              refine wp_append_lims (.tmp 24) (.tmp 26) 23 (by rfl) Tryz.underlying23 (B := W2.heap.size) (by rfl) k6.out (by rfl) (HRX.out.2.below hH11) HM.out HLN.out.2 n6.out (Below.size hH11) ?_
              intro pb c2 V9 F9 g9
              have b9 : Below W2.heap.size W2 V9 := keepB g9 hH11 (Nat.le_refl _)
              replace F9 := Lib.hid F9
              replace k6 := Lib.hid (carry k6.out g9)
              replace k2 := Lib.hid (carry k2.out g9)
              replace F5 := Lib.hid (F5.out.below g9)
              replace k11 := Lib.hid (carry k11.out g9)
              clear g9
              try go_simp
              refine hK.out _ _ b9 (fun hH9 => ?_)
              clear hK K
              try simp only [Act.put, List.setIfInBounds_toArray, List.set_cons_zero, List.set_cons_succ]
              refine wpAnyL_pure (i := 10) (v := (.agg #[.bool s, .slice pa n c1, .slice pb m c2])) rfl (by kernel_rfl) (by kernel_rfl) (by kernel_rfl) (fun _ _ _ h => h) (Or.inl ⟨by kernel_rfl, ?_⟩) ?_
              · intro w1 hB
                go_simp
              change wpAnyL _ _ _ _ _ _ _ _ (Act.put _ (some 28) _) _
              try simp only [Act.put, List.setIfInBounds_toArray, List.set_cons_zero, List.set_cons_succ]
              refine wpAnyL_ready (rs := [12]) (by kernel_rfl) (by simp) ?_
              refine AllReadyL.consLate (by decide) rfl (fun K hK => ?_) AllReadyL.nil
              go_simp
              obtain ⟨o0, o1, o2, z0, z1, z2⟩ := at_block k11.out
              go_simp
              try go_simp
              refine hK.out _ _ ?_
              clear hK K
              try simp only [Act.put, List.setIfInBounds_toArray, List.set_cons_zero, List.set_cons_succ]
              refine wpAnyL_done (by kernel_rfl) ?_ _
              go_wp2_with fail
              go_meet
              exact ⟨l11, pa, c1, pb, c2, rfl, set3_at k11.out _ _ _, ⟨(F5.out.put3 k11.out _ _ _).rd, (F9.out.put3 k11.out _ _ _).rd⟩, below3 hH9 n11.out _ _ _⟩
          · go_simp
            obtain ⟨V11, hV11⟩ : ∃ W, W = V2.alloc (.cells #[.bool false, .slice none 0 0, .slice none 0 0] 25) := ⟨_, rfl⟩
            obtain ⟨l11, hl11⟩ : ∃ g, g = V2.heap.size := ⟨_, rfl⟩
            have k11 : Hid (V11.heap[l11]? = some (.cells #[.bool false, .slice none 0 0, .slice none 0 0] 25 (0, 0))) := by unfold Hid; rw [hV11, hl11]; exact heap_alloc_new V2 (.cells #[.bool false, .slice none 0 0, .slice none 0 0] 25)
            have b11 : Below W2.heap.size W2 V11 := by rw [hV11]; exact Below.alloc hH2 (Below.size hH2) _
            have n11 : Hid (W2.heap.size ≤ l11) := by unfold Hid; rw [hl11]; exact Below.size hH2
            have g11 : Below V2.heap.size V2 V11 := by rw [hV11]; exact below_new V2 _
            replace k6 := Lib.hid (carry k6.out g11)
            replace k2 := Lib.hid (carry k2.out g11)
            clear g11
            try rw [← hV11]
            try rw [← hl11]
            try rw [← hV11]
            clear hV11 hl11
            try go_simp
            refine hK.out _ _ b11 (fun hH11 => ?_)
            clear hK K
            try simp only [Act.put, List.setIfInBounds_toArray, List.set_cons_zero, List.set_cons_succ]
            refine wpAnyL_ready (rs := [5]) (by kernel_rfl) (by simp) ?_
            refine AllReadyL.cons rfl (fun K hK => ?_) AllReadyL.nil
            refine wp_append_lims (.tmp 20) (.tmp 22) 23 (by rfl) Tryz.underlying23 (B := W2.heap.size) (by rfl) k2.out (by rfl) (HRX.out.1.below hH11) HN.out HLN.out.1 n2.out (Below.size hH11) ?_
            intro pa c1 V5 F5 g5
            have b5 : Below W2.heap.size W2 V5 := keepB g5 hH11 (Nat.le_refl _)
            replace F5 := Lib.hid F5
            replace k6 := Lib.hid (carry k6.out g5)
            replace k2 := Lib.hid (carry k2.out g5)
            replace k11 := Lib.hid (carry k11.out g5)
            clear g5
            try go_simp
            refine hK.out _ _ b5 (fun hH5 => ?_)
            clear hK K
            try simp only [Act.put, List.setIfInBounds_toArray, List.set_cons_zero, List.set_cons_succ]
            refine wpAnyL_ready (rs := [9]) (by kernel_rfl) (by simp) ?_
            refine AllReadyL.cons rfl (fun K hK => ?_) AllReadyL.nil
            refine wp_append_lims (.tmp 24) (.tmp 26) 23 (by rfl) Tryz.underlying23 (B := W2.heap.size) (by rfl) k6.out (by rfl) (HRX.out.2.below hH5) HM.out HLN.out.2 n6.out (Below.size hH5) ?_
            intro pb c2 V9 F9 g9
            have b9 : Below W2.heap.size W2 V9 := keepB g9 hH5 (Nat.le_refl _)
            replace F9 := Lib.hid F9
            replace k6 := Lib.hid (carry k6.out g9)
            replace k2 := Lib.hid (carry k2.out g9)
            replace k11 := Lib.hid (carry k11.out g9)
            replace F5 := Lib.hid (F5.out.below g9)
            clear g9
            try go_simp
            refine hK.out _ _ b9 (fun hH9 => ?_)
            clear hK K
            try simp only [Act.put, List.setIfInBounds_toArray, List.set_cons_zero, List.set_cons_succ]
            refine wpAnyL_pure (i := 10) (v := (.agg #[.bool s, .slice pa n c1, .slice pb m c2])) rfl (by kernel_rfl) (by kernel_rfl) (by kernel_rfl) (fun _ _ _ h => h) (Or.inl ⟨by kernel_rfl, ?_⟩) ?_
            · intro w1 hB
              go_simp
            change wpAnyL _ _ _ _ _ _ _ _ (Act.put _ (some 28) _) _
            try simp only [Act.put, List.setIfInBounds_toArray, List.set_cons_zero, List.set_cons_succ]
            refine wpAnyL_ready (rs := [12]) (by kernel_rfl) (by simp) ?_
            refine AllReadyL.consLate (by decide) rfl (fun K hK => ?_) AllReadyL.nil
            go_simp
            obtain ⟨o0, o1, o2, z0, z1, z2⟩ := at_block k11.out
            go_simp
            try go_simp
            refine hK.out _ _ ?_
            clear hK K
            try simp only [Act.put, List.setIfInBounds_toArray, List.set_cons_zero, List.set_cons_succ]
            refine wpAnyL_done (by kernel_rfl) ?_ _
            go_wp2_with fail
            go_meet
            exact ⟨l11, pa, c1, pb, c2, rfl, set3_at k11.out _ _ _, ⟨(F5.out.put3 k11.out _ _ _).rd, (F9.out.put3 k11.out _ _ _).rd⟩, below3 hH9 n11.out _ _ _⟩
        · go_simp
          obtain ⟨V11, hV11⟩ : ∃ W, W = V6.alloc (.cells #[.bool false, .slice none 0 0, .slice none 0 0] 25) := ⟨_, rfl⟩
          obtain ⟨l11, hl11⟩ : ∃ g, g = V6.heap.size := ⟨_, rfl⟩
          have k11 : Hid (V11.heap[l11]? = some (.cells #[.bool false, .slice none 0 0, .slice none 0 0] 25 (0, 0))) := by unfold Hid; rw [hV11, hl11]; exact heap_alloc_new V6 (.cells #[.bool false, .slice none 0 0, .slice none 0 0] 25)
          have b11 : Below W2.heap.size W2 V11 := by rw [hV11]; exact Below.alloc hH6 (Below.size hH6) _
          have n11 : Hid (W2.heap.size ≤ l11) := by unfold Hid; rw [hl11]; exact Below.size hH6
          have g11 : Below V6.heap.size V6 V11 := by rw [hV11]; exact below_new V6 _
          replace k6 := Lib.hid (carry k6.out g11)
          clear g11
          try rw [← hV11]
          try rw [← hl11]
          try rw [← hV11]
          clear hV11 hl11
          try go_simp
          refine hK.out _ _ b11 (fun hH11 => ?_)
          clear hK K
          try simp only [Act.put, List.setIfInBounds_toArray, List.set_cons_zero, List.set_cons_succ]
          refine wpAnyL_ready (rs := [2]) (by kernel_rfl) (by simp) ?_
          refine AllReadyL.cons rfl (fun K hK => ?_) AllReadyL.nil
          go_simp
          obtain ⟨V2, hV2⟩ : ∃ W, W = V11.alloc (.cells #[] 35) := ⟨_, rfl⟩
          obtain ⟨l2, hl2⟩ : ∃ g, g = V11.heap.size := ⟨_, rfl⟩
          have k2 : Hid (V2.heap[l2]? = some (.cells #[] 35 (0, 0))) := by unfold Hid; rw [hV2, hl2]; exact heap_alloc_new V11 (.cells #[] 35)
          have b2 : Below W2.heap.size W2 V2 := by rw [hV2]; exact Below.alloc hH11 (Below.size hH11) _
          have n2 : Hid (W2.heap.size ≤ l2) := by unfold Hid; rw [hl2]; exact Below.size hH11
          have g2 : Below V11.heap.size V11 V2 := by rw [hV2]; exact below_new V11 _
          replace k6 := Lib.hid (carry k6.out g2)
          replace k11 := Lib.hid (carry k11.out g2)
          clear g2
          try rw [← hV2]
          try rw [← hl2]
          try rw [← hV2]
          clear hV2 hl2
          try go_simp
          refine hK.out _ _ b2 (fun hH2 => ?_)
          clear hK K
          try simp only [Act.put, List.setIfInBounds_toArray, List.set_cons_zero, List.set_cons_succ]
          refine wpAnyL_ready (rs := [5]) (by kernel_rfl) (by simp) ?_
          refine AllReadyL.cons rfl (fun K hK => ?_) AllReadyL.nil
          refine wp_append_lims (.tmp 20) (.tmp 22) 23 (by rfl) Tryz.underlying23 (B := W2.heap.size) (by rfl) k2.out (by rfl) (HRX.out.1.below hH2) HN.out HLN.out.1 n2.out (Below.size hH2) ?_
          intro pa c1 V5 F5 g5
          have b5 : Below W2.heap.size W2 V5 := keepB g5 hH2 (Nat.le_refl _)
          replace F5 := Lib.hid F5
          replace k6 := Lib.hid (carry k6.out g5)
          replace k11 := Lib.hid (carry k11.out g5)
          replace k2 := Lib.hid (carry k2.out g5)
          clear g5
          try go_simp
          refine hK.out _ _ b5 (fun hH5 => ?_)
          clear hK K
          try simp only [Act.put, List.setIfInBounds_toArray, List.set_cons_zero, List.set_cons_succ]
          refine wpAnyL_ready (rs := [9]) (by kernel_rfl) (by simp) ?_
          refine AllReadyL.cons rfl (fun K hK => ?_) AllReadyL.nil
          refine wp_append_lims (.tmp 24) (.tmp 26) 23 (by rfl) Tryz.underlying23 (B := W2.heap.size) (by rfl) k6.out (by rfl) (HRX.out.2.below hH5) HM.out HLN.out.2 n6.out (Below.size hH5) ?_
          intro pb c2 V9 F9 g9
          have b9 : Below W2.heap.size W2 V9 := keepB g9 hH5 (Nat.le_refl _)
          replace F9 := Lib.hid F9
          replace k6 := Lib.hid (carry k6.out g9)
          replace k11 := Lib.hid (carry k11.out g9)
          replace k2 := Lib.hid (carry k2.out g9)
          replace F5 := Lib.hid (F5.out.below g9)
          clear g9
          try go_simp
          refine hK.out _ _ b9 (fun hH9 => ?_)
          clear hK K
          try simp only [Act.put, List.setIfInBounds_toArray, List.set_cons_zero, List.set_cons_succ]
          refine wpAnyL_pure (i := 10) (v := (.agg #[.bool s, .slice pa n c1, .slice pb m c2])) rfl (by kernel_rfl) (by kernel_rfl) (by kernel_rfl) (fun _ _ _ h => h) (Or.inl ⟨by kernel_rfl, ?_⟩) ?_
          · intro w1 hB
            go_simp
          change wpAnyL _ _ _ _ _ _ _ _ (Act.put _ (some 28) _) _
          try simp only [Act.put, List.setIfInBounds_toArray, List.set_cons_zero, List.set_cons_succ]
          refine wpAnyL_ready (rs := [12]) (by kernel_rfl) (by simp) ?_
          refine AllReadyL.consLate (by decide) rfl (fun K hK => ?_) AllReadyL.nil
          go_simp
          obtain ⟨o0, o1, o2, z0, z1, z2⟩ := at_block k11.out
          go_simp
          try go_simp
          refine hK.out _ _ ?_
          clear hK K
          try simp only [Act.put, List.setIfInBounds_toArray, List.set_cons_zero, List.set_cons_succ]
          refine wpAnyL_done (by kernel_rfl) ?_ _
          go_wp2_with fail
          go_meet
          exact ⟨l11, pa, c1, pb, c2, rfl, set3_at k11.out _ _ _, ⟨(F5.out.put3 k11.out _ _ _).rd, (F9.out.put3 k11.out _ _ _).rd⟩, below3 hH9 n11.out _ _ _⟩
      · go_simp
        obtain ⟨V11, hV11⟩ : ∃ W, W = (W2.alloc (.cells #[.bool false, .slice none 0 0, .slice none 0 0] 25)).drew := ⟨_, rfl⟩
        obtain ⟨l11, hl11⟩ : ∃ g, g = W2.heap.size := ⟨_, rfl⟩
        have k11 : Hid (V11.heap[l11]? = some (.cells #[.bool false, .slice none 0 0, .slice none 0 0] 25 (0, 0))) := by unfold Hid; rw [hV11, hl11]; exact heap_alloc_new W2 (.cells #[.bool false, .slice none 0 0, .slice none 0 0] 25)
        have b11 : Below W2.heap.size W2 V11 := by rw [hV11]; exact (below_new W2 _).drew
        have n11 : Hid (W2.heap.size ≤ l11) := by unfold Hid; rw [hl11]; exact Nat.le_refl _
        try rw [← hV11]
        try rw [← hl11]
        try rw [← hV11]
        clear hV11 hl11
        try go_simp
        refine hK.out _ _ b11 (fun hH11 => ?_)
        clear hK K
        try simp only [Act.put, List.setIfInBounds_toArray, List.set_cons_zero, List.set_cons_succ]
        refine wpAnyL_ready (rs := [2, 6]) (by kernel_rfl) (by simp) ?_
        refine AllReadyL.cons rfl (fun K hK => ?_) (AllReadyL.cons rfl (fun K hK => ?_) AllReadyL.nil)
        · go_simp
          obtain ⟨V2, hV2⟩ : ∃ W, W = V11.alloc (.cells #[] 35) := ⟨_, rfl⟩
          obtain ⟨l2, hl2⟩ : ∃ g, g = V11.heap.size := ⟨_, rfl⟩
          have k2 : Hid (V2.heap[l2]? = some (.cells #[] 35 (0, 0))) := by unfold Hid; rw [hV2, hl2]; exact heap_alloc_new V11 (.cells #[] 35)
          have b2 : Below W2.heap.size W2 V2 := by rw [hV2]; exact Below.alloc hH11 (Below.size hH11) _
          have n2 : Hid (W2.heap.size ≤ l2) := by unfold Hid; rw [hl2]; exact Below.size hH11
          have g2 : Below V11.heap.size V11 V2 := by rw [hV2]; exact below_new V11 _
          replace k11 := Lib.hid (carry k11.out g2)
          clear g2
          try rw [← hV2]
          try rw [← hl2]
          try rw [← hV2]
          clear hV2 hl2
          try go_simp
          refine hK.out _ _ b2 (fun hH2 => ?_)
          clear hK K
          try simp only [Act.put, List.setIfInBounds_toArray, List.set_cons_zero, List.set_cons_succ]
          refine wpAnyL_ready (rs := [5, 6]) (by kernel_rfl) (by simp) ?_
          refine AllReadyL.cons rfl (fun K hK => ?_) (AllReadyL.cons rfl (fun K hK => ?_) AllReadyL.nil)
          · refine wp_append_lims (.tmp 20) (.tmp 22) 23 (by rfl) Tryz.underlying23 (B := W2.heap.size) (by rfl) k2.out (by rfl) (HRX.out.1.below hH2) HN.out HLN.out.1 n2.out (Below.size hH2) ?_
            intro pa c1 V5 F5 g5
            have b5 : Below W2.heap.size W2 V5 := keepB g5 hH2 (Nat.le_refl _)
            replace F5 := Lib.hid F5
            replace k11 := Lib.hid (carry k11.out g5)
            replace k2 := Lib.hid (carry k2.out g5)
            clear g5
            try go_simp
            refine hK.out _ _ b5 (fun hH5 => ?_)
            clear hK K
            try simp only [Act.put, List.setIfInBounds_toArray, List.set_cons_zero, List.set_cons_succ]
            refine wpAnyL_ready (rs := [6]) (by kernel_rfl) (by simp) ?_
            refine AllReadyL.cons rfl (fun K hK => ?_) AllReadyL.nil
            go_simp
            obtain ⟨V6, hV6⟩ : ∃ W, W = V5.alloc (.cells #[] 35) := ⟨_, rfl⟩
            obtain ⟨l6, hl6⟩ : ∃ g, g = V5.heap.size := ⟨_, rfl⟩
            have k6 : Hid (V6.heap[l6]? = some (.cells #[] 35 (0, 0))) := by unfold Hid; rw [hV6, hl6]; exact heap_alloc_new V5 (.cells #[] 35)
            have b6 : Below W2.heap.size W2 V6 := by rw [hV6]; exact Below.alloc hH5 (Below.size hH5) _
            have n6 : Hid (W2.heap.size ≤ l6) := by unfold Hid; rw [hl6]; exact Below.size hH5
            have g6 : Below V5.heap.size V5 V6 := by rw [hV6]; exact below_new V5 _
            replace k11 := Lib.hid (carry k11.out g6)
            replace k2 := Lib.hid (carry k2.out g6)
            replace F5 := Lib.hid (F5.out.below g6)
            clear g6
            try rw [← hV6]
            try rw [← hl6]
            try rw [← hV6]
            clear hV6 hl6
            try go_simp
            refine hK.out _ _ b6 (fun hH6 => ?_)
            clear hK K
            try simp only [Act.put, List.setIfInBounds_toArray, List.set_cons_zero, List.set_cons_succ]
            refine wpAnyL_ready (rs := [9]) (by kernel_rfl) (by simp) ?_
            refine AllReadyL.cons rfl (fun K hK => ?_) AllReadyL.nil
            refine wp_append_lims (.tmp 24) (.tmp 26) 23 (by rfl) Tryz.underlying23 (B := W2.heap.size) (by rfl) k6.out (by rfl) (HRX.out.2.below hH6) HM.out HLN.out.2 n6.out (Below.size hH6) ?_
            intro pb c2 V9 F9 g9
            have b9 : Below W2.heap.size W2 V9 := keepB g9 hH6 (Nat.le_refl _)
            replace F9 := Lib.hid F9
            replace k11 := Lib.hid (carry k11.out g9)
            replace k2 := Lib.hid (carry k2.out g9)
            replace F5 := Lib.hid (F5.out.below g9)
            replace k6 := Lib.hid (carry k6.out g9)
            clear g9
            try go_simp
            refine hK.out _ _ b9 (fun hH9 => ?_)
            clear hK K
            try simp only [Act.put, List.setIfInBounds_toArray, List.set_cons_zero, List.set_cons_succ]
            refine wpAnyL_pure (i := 10) (v := (.agg #[.bool s, .slice pa n c1, .slice pb m c2])) rfl (by kernel_rfl) (by kernel_rfl) (by kernel_rfl) (fun _ _ _ h => h) (Or.inl ⟨by kernel_rfl, ?_⟩) ?_
            · intro w1 hB
              go_simp
            change wpAnyL _ _ _ _ _ _ _ _ (Act.put _ (some 28) _) _
            try simp only [Act.put, List.setIfInBounds_toArray, List.set_cons_zero, List.set_cons_succ]
            refine wpAnyL_ready (rs := [12]) (by kernel_rfl) (by simp) ?_
            refine AllReadyL.consLate (by decide) rfl (fun K hK => ?_) AllReadyL.nil
            go_simp
            obtain ⟨o0, o1, o2, z0, z1, z2⟩ := at_block k11.out
            go_simp
            try go_simp
            refine hK.out _ _ ?_
            clear hK K
            try simp only [Act.put, List.setIfInBounds_toArray, List.set_cons_zero, List.set_cons_succ]
            refine wpAnyL_done (by kernel_rfl) ?_ _
            go_wp2_with fail
            go_meet
            exact ⟨l11, pa, c1, pb, c2, rfl, set3_at k11.out _ _ _, ⟨(F5.out.put3 k11.out _ _ _).rd, (F9.out.put3 k11.out _ _ _).rd⟩, below3 hH9 n11.out _ _ _⟩
          · go_simp
            obtain ⟨V6, hV6⟩ : ∃ W, W = V2.alloc (.cells #[] 35) := ⟨_, rfl⟩
            obtain ⟨l6, hl6⟩ : ∃ g, g = V2.heap.size := ⟨_, rfl⟩
            have k6 : Hid (V6.heap[l6]? = some (.cells #[] 35 (0, 0))) := by unfold Hid; rw [hV6, hl6]; exact heap_alloc_new V2 (.cells #[] 35)
            have b6 : Below W2.heap.size W2 V6 := by rw [hV6]; exact Below.alloc hH2 (Below.size hH2) _
            have n6 : Hid (W2.heap.size ≤ l6) := by unfold Hid; rw [hl6]; exact Below.size hH2
            have g6 : Below V2.heap.size V2 V6 := by rw [hV6]; exact below_new V2 _
            replace k11 := Lib.hid (carry k11.out g6)
            replace k2 := Lib.hid (carry k2.out g6)
            clear g6
            try rw [← hV6]
            try rw [← hl6]
            try rw [← hV6]
            clear hV6 hl6
            try go_simp
            refine hK.out _ _ b6 (fun hH6 => ?_)
            clear hK K
            try simp only [Act.put, List.setIfInBounds_toArray, List.set_cons_zero, List.set_cons_succ]
            refine wpAnyL_ready (rs := [5]) (by kernel_rfl) (by simp) ?_
            refine AllReadyL.cons rfl (fun K hK => ?_) AllReadyL.nil
            refine wp_append_lims (.tmp 20) (.tmp 22) 23 (by rfl) Tryz.underlying23 (B := W2.heap.size) (by rfl) k2.out (by rfl) (HRX.out.1.below hH6) HN.out HLN.out.1 n2.out (Below.size hH6) ?_
            intro pa c1 V5 F5 g5
            have b5 : Below W2.heap.size W2 V5 := keepB g5 hH6 (Nat.le_refl _)
            replace F5 := Lib.hid F5
            replace k11 := Lib.hid (carry k11.out g5)
            replace k2 := Lib.hid (carry k2.out g5)
            replace k6 := Lib.hid (carry k6.out g5)
            clear g5
            try go_simp
            refine hK.out _ _ b5 (fun hH5 => ?_)
            clear hK K
            try simp only [Act.put, List.setIfInBounds_toArray, List.set_cons_zero, List.set_cons_succ]
            refine wpAnyL_ready (rs := [9]) (by kernel_rfl) (by simp) ?_
            refine AllReadyL.cons rfl (fun K hK => ?_) AllReadyL.nil
            refine wp_append_lims (.tmp 24) (.tmp 26) 23 (by rfl) Tryz.underlying23 (B := W2.heap.size) (by rfl) k6.out (by rfl) (HRX.out.2.below hH5) HM.out HLN.out.2 n6.out (Below.size hH5) ?_
            intro pb c2 V9 F9 g9
            have b9 : Below W2.heap.size W2 V9 := keepB g9 hH5 (Nat.le_refl _)
            replace F9 := Lib.hid F9
            replace k11 := Lib.hid (carry k11.out g9)
            replace k2 := Lib.hid (carry k2.out g9)
            replace k6 := Lib.hid (carry k6.out g9)
            replace F5 := Lib.hid (F5.out.below g9)
            clear g9
            try go_simp
            refine hK.out _ _ b9 (fun hH9 => ?_)
            clear hK K
            try simp only [Act.put, List.setIfInBounds_toArray, List.set_cons_zero, List.set_cons_succ]
            refine wpAnyL_pure (i := 10) (v := (.agg #[.bool s, .slice pa n c1, .slice pb m c2])) rfl (by kernel_rfl) (by kernel_rfl) (by kernel_rfl) (fun _ _ _ h => h) (Or.inl ⟨by kernel_rfl, ?_⟩) ?_
            · intro w1 hB
              go_simp
            change wpAnyL _ _ _ _ _ _ _ _ (Act.put _ (some 28) _) _
            try simp only [Act.put, List.setIfInBounds_toArray, List.set_cons_zero, List.set_cons_succ]
            refine wpAnyL_ready (rs := [12]) (by kernel_rfl) (by simp) ?_
            refine AllReadyL.consLate (by decide) rfl (fun K hK => ?_) AllReadyL.nil
            go_simp
            obtain ⟨o0, o1, o2, z0, z1, z2⟩ := at_block k11.out
            go_simp
            try go_simp
            refine hK.out _ _ ?_
            clear hK K
            try simp only [Act.put, List.setIfInBounds_toArray, List.set_cons_zero, List.set_cons_succ]
            refine wpAnyL_done (by kernel_rfl) ?_ _
            go_wp2_with fail
            go_meet
            exact ⟨l11, pa, c1, pb, c2, rfl, set3_at k11.out _ _ _, ⟨(F5.out.put3 k11.out _ _ _).rd, (F9.out.put3 k11.out _ _ _).rd⟩, below3 hH9 n11.out _ _ _⟩
        · go_simp
          obtain ⟨V6, hV6⟩ : ∃ W, W = V11.alloc (.cells #[] 35) := ⟨_, rfl⟩
          obtain ⟨l6, hl6⟩ : ∃ g, g = V11.heap.size := ⟨_, rfl⟩
          have k6 : Hid (V6.heap[l6]? = some (.cells #[] 35 (0, 0))) := by unfold Hid; rw [hV6, hl6]; exact heap_alloc_new V11 (.cells #[] 35)
          have b6 : Below W2.heap.size W2 V6 := by rw [hV6]; exact Below.alloc hH11 (Below.size hH11) _
          have n6 : Hid (W2.heap.size ≤ l6) := by unfold Hid; rw [hl6]; exact Below.size hH11
          have g6 : Below V11.heap.size V11 V6 := by rw [hV6]; exact below_new V11 _
          replace k11 := Lib.hid (carry k11.out g6)
          clear g6
          try rw [← hV6]
          try rw [← hl6]
          try rw [← hV6]
          clear hV6 hl6
          try go_simp
          refine hK.out _ _ b6 (fun hH6 => ?_)
          clear hK K
          try simp only [Act.put, List.setIfInBounds_toArray, List.set_cons_zero, List.set_cons_succ]
          refine wpAnyL_ready (rs := [2]) (by kernel_rfl) (by simp) ?_
          refine AllReadyL.cons rfl (fun K hK => ?_) AllReadyL.nil
          go_simp
          obtain ⟨V2, hV2⟩ : ∃ W, W = V6.alloc (.cells #[] 35) := ⟨_, rfl⟩
          obtain ⟨l2, hl2⟩ : ∃ g, g = V6.heap.size := ⟨_, rfl⟩
          have k2 : Hid (V2.heap[l2]? = some (.cells #[] 35 (0, 0))) := by unfold Hid; rw [hV2, hl2]; exact heap_alloc_new V6 (.cells #[] 35)
          have b2 : Below W2.heap.size W2 V2 := by rw [hV2]; exact Below.alloc hH6 (Below.size hH6) _
          have n2 : Hid (W2.heap.size ≤ l2) := by unfold Hid; rw [hl2]; exact Below.size hH6
          have g2 : Below V6.heap.size V6 V2 := by rw [hV2]; exact below_new V6 _
          replace k11 := Lib.hid (carry k11.out g2)
          replace k6 := Lib.hid (carry k6.out g2)
          clear g2
          try rw [← hV2]
          try rw [← hl2]
          try rw [← hV2]
          clear hV2 hl2
          try go_simp
          refine hK.out _ _ b2 (fun hH2 => ?_)
          clear hK K
          try simp only [Act.put, List.setIfInBounds_toArray, List.set_cons_zero, List.set_cons_succ]
          refine wpAnyL_ready (rs := [5]) (by kernel_rfl) (by simp) ?_
          refine AllReadyL.cons rfl (fun K hK => ?_) AllReadyL.nil
          refine wp_append_lims (.tmp 20) (.tmp 22) 23 (by rfl) Tryz.underlying23 (B := W2.heap.size) (by rfl) k2.out (by rfl) (HRX.out.1.below hH2) HN.out HLN.out.1 n2.out (Below.size hH2) ?_
          intro pa c1 V5 F5 g5
          have b5 : Below W2.heap.size W2 V5 := keepB g5 hH2 (Nat.le_refl _)
          replace F5 := Lib.hid F5
          replace k11 := Lib.hid (carry k11.out g5)
          replace k6 := Lib.hid (carry k6.out g5)
          replace k2 := Lib.hid (carry k2.out g5)
          clear g5
          try go_simp
          refine hK.out _ _ b5 (fun hH5 => ?_)
          clear hK K
          try simp only [Act.put, List.setIfInBounds_toArray, List.set_cons_zero, List.set_cons_succ]
          refine wpAnyL_ready (rs := [9]) (by kernel_rfl) (by simp) ?_
          refine AllReadyL.cons rfl (fun K hK => ?_) AllReadyL.nil
          refine wp_append_lims (.tmp 24) (.tmp 26) 23 (by rfl) Tryz.underlying23 (B := W2.heap.size) (by rfl) k6.out (by rfl) (HRX.out.2.below hH5) HM.out HLN.out.2 n6.out (Below.size hH5) ?_
          intro pb c2 V9 F9 g9
          have b9 : Below W2.heap.size W2 V9 := keepB g9 hH5 (Nat.le_refl _)
          replace F9 := Lib.hid F9
          replace k11 := Lib.hid (carry k11.out g9)
          replace k6 := Lib.hid (carry k6.out g9)
          replace k2 := Lib.hid (carry k2.out g9)
          replace F5 := Lib.hid (F5.out.below g9)
          clear g9
          try go_simp
          refine hK.out _ _ b9 (fun hH9 => ?_)
          clear hK K
          try simp only [Act.put, List.setIfInBounds_toArray, List.set_cons_zero, List.set_cons_succ]
          refine wpAnyL_pure (i := 10) (v := (.agg #[.bool s, .slice pa n c1, .slice pb m c2])) rfl (by kernel_rfl) (by kernel_rfl) (by kernel_rfl) (fun _ _ _ h => h) (Or.inl ⟨by kernel_rfl, ?_⟩) ?_
          · intro w1 hB
            go_simp
          change wpAnyL _ _ _ _ _ _ _ _ (Act.put _ (some 28) _) _
          try simp only [Act.put, List.setIfInBounds_toArray, List.set_cons_zero, List.set_cons_succ]
          refine wpAnyL_ready (rs := [12]) (by kernel_rfl) (by simp) ?_
          refine AllReadyL.consLate (by decide) rfl (fun K hK => ?_) AllReadyL.nil
          go_simp
          obtain ⟨o0, o1, o2, z0, z1, z2⟩ := at_block k11.out
          go_simp
          try go_simp
          refine hK.out _ _ ?_
          clear hK K
          try simp only [Act.put, List.setIfInBounds_toArray, List.set_cons_zero, List.set_cons_succ]
          refine wpAnyL_done (by kernel_rfl) ?_ _
          go_wp2_with fail
          go_meet
          exact ⟨l11, pa, c1, pb, c2, rfl, set3_at k11.out _ _ _, ⟨(F5.out.put3 k11.out _ _ _).rd, (F9.out.put3 k11.out _ _ _).rd⟩, below3 hH9 n11.out _ _ _⟩
    case rest =>
    obtain ⟨ga, pa, c1, pb, c2, rfl, hxa, hra, hb3⟩ := hcut
    rename World => W3
    have XA : Hid (W3.heap[ga]? = some (.cells #[.bool s, .slice pa n c1, .slice pb m c2] 25 (0, 0))) := hxa.out
    have RA : Hid (Rd W3 pa c1 us ∧ Rd W3 pb c2 vs) := hra.out
    have HB3 : Hid (Below W2.heap.size W2 W3) := hb3.out
    have QA : Hid (RQ W3 s pa n c1 pb m c2 p 12) := by
      have := cut_rq (s := s) RA.out.1 RA.out.2 (List.take_of_length_le HLN.out.1).symm (List.take_of_length_le HLN.out.2).symm
      rw [← HN.out, ← HM.out, ← HP.out] at this
      exact this
    clear hxa hra hb3
    go_upto_region 3 with fail
    go_cut [6] from 29 to 34 (fun v6 (wx : World) => ∃ (gq : Nat) (r : RV), v6 = .pointer (some ⟨gq, 0, none⟩) ∧ Hid (wx.heap[gq]? = some (.cells #[.bool r.s, .slice r.ao r.n r.ca, .slice r.bo r.m r.cb] 25 (0, 0))) ∧ Hid (FrS W3.heap.size wx r) ∧ Hid (Below W3.heap.size W3 wx))
    case first =>
      refine wp_region_last (late := [7]) (S := fun w' => Below W3.heap.size W3 w') (by kernel_rfl) ((Below.refl _ _).drew) (fun hH => ?_)
      refine wpAnyL_take (bl := [2, 3, 4, 5, 7, 8]) (i := 0) (v := (.agg #[.bool s, .slice pa n c1, .slice pb m c2])) (by kernel_rfl) rfl (by kernel_rfl) (by kernel_rfl) (by kernel_rfl) (fun _ _ _ h => h) (Or.inl ⟨by kernel_rfl, ?_⟩) hH ?_
      · intro w1 hB
        obtain ⟨p0, p1, p2, -, -, -⟩ := at_block (carry XA.out hB)
        go_simp
      change wpAnyL _ _ _ _ _ _ _ _ (Act.put _ (some 30) _) _
      try simp only [Act.put, List.setIfInBounds_toArray, List.set_cons_zero, List.set_cons_succ]
      refine wpAnyL_ready (rs := [1, 6]) (by kernel_rfl) (by simp) ?_
      refine AllReadyL.cons rfl (fun K hK => ?_) (AllReadyL.cons rfl (fun K hK => ?_) AllReadyL.nil)
      · go_simp
        refine (rOne_q _).mono ?_
        rintro e V1 ⟨s1, a1, n1, e1, o1, m1, d1, rfl, cq1, g1⟩
        have b1 : Below W3.heap.size W3 V1 := keepB g1 hH (Nat.le_refl _)
        replace cq1 := Lib.hid cq1
        clear g1
        try go_simp
        refine hK.out _ _ b1 (fun hH1 => ?_)
        clear hK K
        try simp only [Act.put, List.setIfInBounds_toArray, List.set_cons_zero, List.set_cons_succ]
        refine wpAnyL_ready (rs := [2, 6]) (by kernel_rfl) (by simp) ?_
        refine AllReadyL.cons rfl (fun K hK => ?_) (AllReadyL.cons rfl (fun K hK => ?_) AllReadyL.nil)
        · go_simp
          refine (Quo_any _ _ _ _ _ _ _ _ _ _ _ _ _ _ 12 _ _ _ (QA.out.below hH1) (CQ.upk cq1.out (k' := 12) (by omega) (by omega)).rq (by omega)).mono ?_
          rintro e V2 ⟨s2, a2, n2, e2, o2, m2, d2, er, rfl, cq2, -, g2⟩
          have b2 : Below W3.heap.size W3 V2 := keepB g2 hH1 (Nat.le_refl _)
          replace cq2 := Lib.hid (cq2.mono (Below.size hH1))
          clear g2
          try go_simp
          refine hK.out _ _ b2 (fun hH2 => ?_)
          clear hK K
          try simp only [Act.put, List.setIfInBounds_toArray, List.set_cons_zero, List.set_cons_succ]
          refine wpAnyL_pure (i := 3) (v := (.tuple #[.agg #[.bool s2, .slice a2 n2 e2, .slice o2 m2 d2], .int .i64 er])) rfl (by kernel_rfl) (by kernel_rfl) (by kernel_rfl) (fun _ _ _ h => h) (Or.inl ⟨by kernel_rfl, ?_⟩) ?_
          · intro w1 hB
            go_simp
          change wpAnyL _ _ _ _ _ _ _ _ (Act.put _ (some 29) _) _
          try simp only [Act.put, List.setIfInBounds_toArray, List.set_cons_zero, List.set_cons_succ]
          refine wpAnyL_pure (i := 4) (v := (.agg #[.bool s2, .slice a2 n2 e2, .slice o2 m2 d2])) rfl (by kernel_rfl) (by kernel_rfl) (by kernel_rfl) (fun _ _ _ h => h) (Or.inl ⟨by kernel_rfl, ?_⟩) ?_
          · intro w1 hB
            go_simp
          change wpAnyL _ _ _ _ _ _ _ _ (Act.put _ (some 33) _) _
          try simp only [Act.put, List.setIfInBounds_toArray, List.set_cons_zero, List.set_cons_succ]
          refine wpAnyL_pure (i := 5) (v := (.int .i64 er)) rfl (by kernel_rfl) (by kernel_rfl) (by kernel_rfl) (fun _ _ _ h => h) (Or.inl ⟨by kernel_rfl, ?_⟩) ?_
          · intro w1 hB
            go_simp
          change wpAnyL _ _ _ _ _ _ _ _ (Act.put _ (some 34) _) _
          try simp only [Act.put, List.setIfInBounds_toArray, List.set_cons_zero, List.set_cons_succ]
          refine wpAnyL_ready (rs := [6]) (by kernel_rfl) (by simp) ?_
          refine AllReadyL.cons rfl (fun K hK => ?_) AllReadyL.nil
          go_simp
          obtain ⟨V6, hV6⟩ : ∃ W, W = V2.alloc (.cells #[.bool false, .slice none 0 0, .slice none 0 0] 25) := ⟨_, rfl⟩
          obtain ⟨l6, hl6⟩ : ∃ g, g = V2.heap.size := ⟨_, rfl⟩
          have k6 : Hid (V6.heap[l6]? = some (.cells #[.bool false, .slice none 0 0, .slice none 0 0] 25 (0, 0))) := by unfold Hid; rw [hV6, hl6]; exact heap_alloc_new V2 (.cells #[.bool false, .slice none 0 0, .slice none 0 0] 25)
          have b6 : Below W3.heap.size W3 V6 := by rw [hV6]; exact Below.alloc hH2 (Below.size hH2) _
          have n6 : Hid (W3.heap.size ≤ l6) := by unfold Hid; rw [hl6]; exact Below.size hH2
          have g6 : Below V2.heap.size V2 V6 := by rw [hV6]; exact below_new V2 _
          replace cq2 := Lib.hid (cq2.out.below g6)
          clear g6
          try rw [← hV6]
          try rw [← hl6]
          try rw [← hV6]
          clear hV6 hl6
          try go_simp
          refine hK.out _ _ b6 (fun hH6 => ?_)
          clear hK K
          try simp only [Act.put, List.setIfInBounds_toArray, List.set_cons_zero, List.set_cons_succ]
          refine wpAnyL_ready (rs := [7]) (by kernel_rfl) (by simp) ?_
          refine AllReadyL.consLate (by decide) rfl (fun K hK => ?_) AllReadyL.nil
          go_simp
          obtain ⟨o0, o1', o2', z0, z1, z2⟩ := at_block k6.out
          go_simp
          try go_simp
          refine hK.out _ _ ?_
          clear hK K
          try simp only [Act.put, List.setIfInBounds_toArray, List.set_cons_zero, List.set_cons_succ]
          refine wpAnyL_pure (i := 8) (v := (.int .i64 er)) rfl (by kernel_rfl) (by kernel_rfl) (by kernel_rfl) (fun _ _ _ h => h) (Or.inl ⟨by kernel_rfl, ?_⟩) ?_
          · intro w1 hB
            go_simp
          change wpAnyL _ _ _ _ _ _ _ _ (Act.put _ (some 7) _) _
          try simp only [Act.put, List.setIfInBounds_toArray, List.set_cons_zero, List.set_cons_succ]
          refine wpAnyL_done (by kernel_rfl) ?_ _
          go_wp2_with fail
          go_meet
          exact ⟨l6, ⟨s2, a2, n2, e2, o2, m2, d2⟩, rfl, set3_at k6.out _ _ _, (CQ.frs cq2.out).put3 _ _ _, below3 hH6 n6.out _ _ _⟩
        · go_simp
          obtain ⟨V6, hV6⟩ : ∃ W, W = V1.alloc (.cells #[.bool false, .slice none 0 0, .slice none 0 0] 25) := ⟨_, rfl⟩
          obtain ⟨l6, hl6⟩ : ∃ g, g = V1.heap.size := ⟨_, rfl⟩
          have k6 : Hid (V6.heap[l6]? = some (.cells #[.bool false, .slice none 0 0, .slice none 0 0] 25 (0, 0))) := by unfold Hid; rw [hV6, hl6]; exact heap_alloc_new V1 (.cells #[.bool false, .slice none 0 0, .slice none 0 0] 25)
          have b6 : Below W3.heap.size W3 V6 := by rw [hV6]; exact Below.alloc hH1 (Below.size hH1) _
          have n6 : Hid (W3.heap.size ≤ l6) := by unfold Hid; rw [hl6]; exact Below.size hH1
          have g6 : Below V1.heap.size V1 V6 := by rw [hV6]; exact below_new V1 _
          replace cq1 := Lib.hid (cq1.out.below g6)
          clear g6
          try rw [← hV6]
          try rw [← hl6]
          try rw [← hV6]
          clear hV6 hl6
          try go_simp
          refine hK.out _ _ b6 (fun hH6 => ?_)
          clear hK K
          try simp only [Act.put, List.setIfInBounds_toArray, List.set_cons_zero, List.set_cons_succ]
          refine wpAnyL_ready (rs := [2]) (by kernel_rfl) (by simp) ?_
          refine AllReadyL.cons rfl (fun K hK => ?_) AllReadyL.nil
          go_simp
          refine (Quo_any _ _ _ _ _ _ _ _ _ _ _ _ _ _ 12 _ _ _ (QA.out.below hH6) (CQ.upk cq1.out (k' := 12) (by omega) (by omega)).rq (by omega)).mono ?_
          rintro e V2 ⟨s2, a2, n2, e2, o2, m2, d2, er, rfl, cq2, -, g2⟩
          have b2 : Below W3.heap.size W3 V2 := keepB g2 hH6 (Nat.le_refl _)
          replace cq2 := Lib.hid (cq2.mono (Below.size hH6))
          replace k6 := Lib.hid (carry k6.out g2)
          clear g2
          try go_simp
          refine hK.out _ _ b2 (fun hH2 => ?_)
          clear hK K
          try simp only [Act.put, List.setIfInBounds_toArray, List.set_cons_zero, List.set_cons_succ]
          refine wpAnyL_pure (i := 3) (v := (.tuple #[.agg #[.bool s2, .slice a2 n2 e2, .slice o2 m2 d2], .int .i64 er])) rfl (by kernel_rfl) (by kernel_rfl) (by kernel_rfl) (fun _ _ _ h => h) (Or.inl ⟨by kernel_rfl, ?_⟩) ?_
          · intro w1 hB
            go_simp
          change wpAnyL _ _ _ _ _ _ _ _ (Act.put _ (some 29) _) _
          try simp only [Act.put, List.setIfInBounds_toArray, List.set_cons_zero, List.set_cons_succ]
          refine wpAnyL_pure (i := 4) (v := (.agg #[.bool s2, .slice a2 n2 e2, .slice o2 m2 d2])) rfl (by kernel_rfl) (by kernel_rfl) (by kernel_rfl) (fun _ _ _ h => h) (Or.inl ⟨by kernel_rfl, ?_⟩) ?_
          · intro w1 hB
            go_simp
          change wpAnyL _ _ _ _ _ _ _ _ (Act.put _ (some 33) _) _
          try simp only [Act.put, List.setIfInBounds_toArray, List.set_cons_zero, List.set_cons_succ]
          refine wpAnyL_pure (i := 5) (v := (.int .i64 er)) rfl (by kernel_rfl) (by kernel_rfl) (by kernel_rfl) (fun _ _ _ h => h) (Or.inl ⟨by kernel_rfl, ?_⟩) ?_
          · intro w1 hB
            go_simp
          change wpAnyL _ _ _ _ _ _ _ _ (Act.put _ (some 34) _) _
          try simp only [Act.put, List.setIfInBounds_toArray, List.set_cons_zero, List.set_cons_succ]
          refine wpAnyL_ready (rs := [7]) (by kernel_rfl) (by simp) ?_
          refine AllReadyL.consLate (by decide) rfl (fun K hK => ?_) AllReadyL.nil
          go_simp
          obtain ⟨o0, o1', o2', z0, z1, z2⟩ := at_block k6.out
          go_simp
          try go_simp
          refine hK.out _ _ ?_
          clear hK K
          try simp only [Act.put, List.setIfInBounds_toArray, List.set_cons_zero, List.set_cons_succ]
          refine wpAnyL_pure (i := 8) (v := (.int .i64 er)) rfl (by kernel_rfl) (by kernel_rfl) (by kernel_rfl) (fun _ _ _ h => h) (Or.inl ⟨by kernel_rfl, ?_⟩) ?_
          · intro w1 hB
            go_simp
          change wpAnyL _ _ _ _ _ _ _ _ (Act.put _ (some 7) _) _
          try simp only [Act.put, List.setIfInBounds_toArray, List.set_cons_zero, List.set_cons_succ]
          refine wpAnyL_done (by kernel_rfl) ?_ _
          go_wp2_with fail
          go_meet
          exact ⟨l6, ⟨s2, a2, n2, e2, o2, m2, d2⟩, rfl, set3_at k6.out _ _ _, (CQ.frs cq2.out).put3 _ _ _, below3 hH2 n6.out _ _ _⟩
      · go_simp
        obtain ⟨V6, hV6⟩ : ∃ W, W = (W3.alloc (.cells #[.bool false, .slice none 0 0, .slice none 0 0] 25)).drew := ⟨_, rfl⟩
        obtain ⟨l6, hl6⟩ : ∃ g, g = W3.heap.size := ⟨_, rfl⟩
        have k6 : Hid (V6.heap[l6]? = some (.cells #[.bool false, .slice none 0 0, .slice none 0 0] 25 (0, 0))) := by unfold Hid; rw [hV6, hl6]; exact heap_alloc_new W3 (.cells #[.bool false, .slice none 0 0, .slice none 0 0] 25)
        have b6 : Below W3.heap.size W3 V6 := by rw [hV6]; exact (below_new W3 _).drew
        have n6 : Hid (W3.heap.size ≤ l6) := by unfold Hid; rw [hl6]; exact Nat.le_refl _
        try rw [← hV6]
        try rw [← hl6]
        try rw [← hV6]
        clear hV6 hl6
        try go_simp
        refine hK.out _ _ b6 (fun hH6 => ?_)
        clear hK K
        try simp only [Act.put, List.setIfInBounds_toArray, List.set_cons_zero, List.set_cons_succ]
        refine wpAnyL_ready (rs := [1]) (by kernel_rfl) (by simp) ?_
        refine AllReadyL.cons rfl (fun K hK => ?_) AllReadyL.nil
        go_simp
        refine (rOne_q _).mono ?_
        rintro e V1 ⟨s1, a1, n1, e1, o1, m1, d1, rfl, cq1, g1⟩
        have b1 : Below W3.heap.size W3 V1 := keepB g1 hH6 (Nat.le_refl _)
        replace cq1 := Lib.hid cq1
        replace k6 := Lib.hid (carry k6.out g1)
        clear g1
        try go_simp
        refine hK.out _ _ b1 (fun hH1 => ?_)
        clear hK K
        try simp only [Act.put, List.setIfInBounds_toArray, List.set_cons_zero, List.set_cons_succ]
        refine wpAnyL_ready (rs := [2]) (by kernel_rfl) (by simp) ?_
        refine AllReadyL.cons rfl (fun K hK => ?_) AllReadyL.nil
        go_simp
        refine (Quo_any _ _ _ _ _ _ _ _ _ _ _ _ _ _ 12 _ _ _ (QA.out.below hH1) (CQ.upk cq1.out (k' := 12) (by omega) (by omega)).rq (by omega)).mono ?_
        rintro e V2 ⟨s2, a2, n2, e2, o2, m2, d2, er, rfl, cq2, -, g2⟩
        have b2 : Below W3.heap.size W3 V2 := keepB g2 hH1 (Nat.le_refl _)
        replace cq2 := Lib.hid (cq2.mono (Below.size hH1))
        replace k6 := Lib.hid (carry k6.out g2)
        clear g2
        try go_simp
        refine hK.out _ _ b2 (fun hH2 => ?_)
        clear hK K
        try simp only [Act.put, List.setIfInBounds_toArray, List.set_cons_zero, List.set_cons_succ]
        refine wpAnyL_pure (i := 3) (v := (.tuple #[.agg #[.bool s2, .slice a2 n2 e2, .slice o2 m2 d2], .int .i64 er])) rfl (by kernel_rfl) (by kernel_rfl) (by kernel_rfl) (fun _ _ _ h => h) (Or.inl ⟨by kernel_rfl, ?_⟩) ?_
        · intro w1 hB
          go_simp
        change wpAnyL _ _ _ _ _ _ _ _ (Act.put _ (some 29) _) _
        try simp only [Act.put, List.setIfInBounds_toArray, List.set_cons_zero, List.set_cons_succ]
        refine wpAnyL_pure (i := 4) (v := (.agg #[.bool s2, .slice a2 n2 e2, .slice o2 m2 d2])) rfl (by kernel_rfl) (by kernel_rfl) (by kernel_rfl) (fun _ _ _ h => h) (Or.inl ⟨by kernel_rfl, ?_⟩) ?_
        · intro w1 hB
          go_simp
        change wpAnyL _ _ _ _ _ _ _ _ (Act.put _ (some 33) _) _
        try simp only [Act.put, List.setIfInBounds_toArray, List.set_cons_zero, List.set_cons_succ]
        refine wpAnyL_pure (i := 5) (v := (.int .i64 er)) rfl (by kernel_rfl) (by kernel_rfl) (by kernel_rfl) (fun _ _ _ h => h) (Or.inl ⟨by kernel_rfl, ?_⟩) ?_
        · intro w1 hB
          go_simp
        change wpAnyL _ _ _ _ _ _ _ _ (Act.put _ (some 34) _) _
        try simp only [Act.put, List.setIfInBounds_toArray, List.set_cons_zero, List.set_cons_succ]
        refine wpAnyL_ready (rs := [7]) (by kernel_rfl) (by simp) ?_
        refine AllReadyL.consLate (by decide) rfl (fun K hK => ?_) AllReadyL.nil
        go_simp
        obtain ⟨o0, o1', o2', z0, z1, z2⟩ := at_block k6.out
        go_simp
        try go_simp
        refine hK.out _ _ ?_
        clear hK K
        try simp only [Act.put, List.setIfInBounds_toArray, List.set_cons_zero, List.set_cons_succ]
        refine wpAnyL_pure (i := 8) (v := (.int .i64 er)) rfl (by kernel_rfl) (by kernel_rfl) (by kernel_rfl) (fun _ _ _ h => h) (Or.inl ⟨by kernel_rfl, ?_⟩) ?_
        · intro w1 hB
          go_simp
        change wpAnyL _ _ _ _ _ _ _ _ (Act.put _ (some 7) _) _
        try simp only [Act.put, List.setIfInBounds_toArray, List.set_cons_zero, List.set_cons_succ]
        refine wpAnyL_done (by kernel_rfl) ?_ _
        go_wp2_with fail
        go_meet
        exact ⟨l6, ⟨s2, a2, n2, e2, o2, m2, d2⟩, rfl, set3_at k6.out _ _ _, (CQ.frs cq2.out).put3 _ _ _, below3 hH2 n6.out _ _ _⟩
    case rest =>
    obtain ⟨gq, rq', rfl, hxq, hfq, hb4⟩ := hcut
    rename World => W4
    have XQ4 : Hid (W4.heap[gq]? = some (.cells #[.bool rq'.s, .slice rq'.ao rq'.n rq'.ca, .slice rq'.bo rq'.m rq'.cb] 25 (0, 0))) := hxq.out
    have FQ4 : Hid (FrS W3.heap.size W4 rq') := hfq.out
    have HB4 : Hid (Below W3.heap.size W3 W4) := hb4.out
    clear hxq hfq hb4
    -- the first power
    obtain ⟨k0, k1, k2, -, -, -⟩ := at_block (carry XA.out HB4.out)
    obtain ⟨pw1, PW⟩ := Power_one s pa pb n c1 m c2 p W4 (QA.out.below HB4.out)
    have PWH := Lib.hid PW
    clear PW
    go_wp2_with fail
    refine PWH.out.mono ?_
    rintro e u5 ⟨s5, a5, n5, c5, o5, m5, d5, rfl, q5, h5⟩
    obtain ⟨W5, hW5⟩ : ∃ W, W = u5.alloc (.cells #[.bool s5, .slice a5 n5 c5, .slice o5 m5 d5] 25) := ⟨_, rfl⟩
    obtain ⟨gp, hgp⟩ : ∃ g, g = u5.heap.size := ⟨_, rfl⟩
    have e5 : Below u5.heap.size u5 W5 := by rw [hW5]; exact below_new u5 _
    have f5 : Below W4.heap.size W4 W5 := h5.trans (e5.mono h5.size)
    have XP5 : Hid (W5.heap[gp]? = some (.cells #[.bool s5, .slice a5 n5 c5, .slice o5 m5 d5] 25 (0, 0))) := by unfold Hid; rw [hW5, hgp]; exact heap_alloc_new _ _
    have XQ5 := Lib.hid (carry XQ4.out f5)
    have FP5 : Hid (FrS W3.heap.size W5 ⟨s5, a5, n5, c5, o5, m5, d5⟩) := (CQ.frs (q5.mono HB4.out.size)).below e5
    have FQ5 := Lib.hid (FQ4.out.below f5)
    have HB5 : Hid (Below W3.heap.size W3 W5) := HB4.out.trans (f5.mono HB4.out.size)
    have XA5 := Lib.hid (carry XA.out HB5.out)
    have QA5 := Lib.hid (QA.out.below HB5.out)
    have HW5 := Lib.hid hW5
    have HGP := Lib.hid hgp
    clear q5 h5 e5 f5 hW5 hgp k0 k1 k2 PWH XQ4 FQ4 HB4
    go_upto_region 5 with fail
    rw [← HW5.out]
    try rw [← HGP.out]
    clear HW5 HGP
    go_cut [55, 56, 57] from 40 to 57 (fun v55 v56 v57 (wx : World) => ∃ (gl : Nat) (cur : Array Value) (rs : List RV), v55 = .slice (some ⟨gl, 0, none⟩) 7 7 ∧ v56 = .int .i64 7 ∧ v57 = .int .i64 0 ∧ Hid (wx.heap[gl]? = some (.cells cur 25 (0, 0))) ∧ Hid (LitC cur rs ∧ rs.length = 7) ∧ Hid (∀ r ∈ rs, FrS W3.heap.size wx r) ∧ Hid (W5.heap.size ≤ gl) ∧ Hid (Below W5.heap.size W5 wx))
    case first =>
      refine wp_region_last (late := []) (S := fun w' => Below W5.heap.size W5 w') (by kernel_rfl) ((Below.refl _ _).drew) (fun hH => ?_)
      refine wpAnyL_take (bl := [1, 4, 6, 7, 9, 12, 15, 16]) (i := 0) (v := (.agg #[.bool s, .slice pa n c1, .slice pb m c2])) (by kernel_rfl) rfl (by kernel_rfl) (by kernel_rfl) (by kernel_rfl) (fun _ _ _ h => h) (Or.inl ⟨by kernel_rfl, ?_⟩) hH ?_
      · intro w1 hB
        obtain ⟨p0, p1, p2, -, -, -⟩ := at_block (carry XA5.out hB)
        obtain ⟨q0, q1, q2, -, -, -⟩ := at_block (carry XQ5.out hB)
        obtain ⟨t0, t1, t2, -, -, -⟩ := at_block (carry XP5.out hB)
        go_simp
      change wpAnyL _ _ _ _ _ _ _ _ (Act.put _ (some 40) _) _
      try simp only [Act.put, List.setIfInBounds_toArray, List.set_cons_zero, List.set_cons_succ]
      refine wpAnyL_take (bl := [4, 6, 7, 9, 12, 15, 16]) (i := 2) (v := (.agg #[.bool s, .slice pa n c1, .slice pb m c2])) (by kernel_rfl) rfl (by kernel_rfl) (by kernel_rfl) (by kernel_rfl) (fun _ _ _ h => h) (Or.inl ⟨by kernel_rfl, ?_⟩) hH ?_
      · intro w1 hB
        obtain ⟨p0, p1, p2, -, -, -⟩ := at_block (carry XA5.out hB)
        obtain ⟨q0, q1, q2, -, -, -⟩ := at_block (carry XQ5.out hB)
        obtain ⟨t0, t1, t2, -, -, -⟩ := at_block (carry XP5.out hB)
        go_simp
      change wpAnyL _ _ _ _ _ _ _ _ (Act.put _ (some 42) _) _
      try simp only [Act.put, List.setIfInBounds_toArray, List.set_cons_zero, List.set_cons_succ]
      refine wpAnyL_pure (i := 3) (v := (.agg #[.bool false, .slice none 0 0, .slice none 0 0])) rfl (by kernel_rfl) (by kernel_rfl) (by kernel_rfl) (fun _ _ _ h => h) (Or.inl ⟨by kernel_rfl, ?_⟩) ?_
      · intro w1 hB
        go_simp
      change wpAnyL _ _ _ _ _ _ _ _ (Act.put _ (some 43) _) _
      try simp only [Act.put, List.setIfInBounds_toArray, List.set_cons_zero, List.set_cons_succ]
      refine wpAnyL_take (bl := [7, 9, 12, 15, 16]) (i := 5) (v := (.agg #[.bool s, .slice pa n c1, .slice pb m c2])) (by kernel_rfl) rfl (by kernel_rfl) (by kernel_rfl) (by kernel_rfl) (fun _ _ _ h => h) (Or.inl ⟨by kernel_rfl, ?_⟩) hH ?_
      · intro w1 hB
        obtain ⟨p0, p1, p2, -, -, -⟩ := at_block (carry XA5.out hB)
        obtain ⟨q0, q1, q2, -, -, -⟩ := at_block (carry XQ5.out hB)
        obtain ⟨t0, t1, t2, -, -, -⟩ := at_block (carry XP5.out hB)
        go_simp
      change wpAnyL _ _ _ _ _ _ _ _ (Act.put _ (some 45) _) _
      try simp only [Act.put, List.setIfInBounds_toArray, List.set_cons_zero, List.set_cons_succ]
      refine wpAnyL_take (bl := [9, 12, 15, 16]) (i := 8) (v := (.agg #[.bool s, .slice pa n c1, .slice pb m c2])) (by kernel_rfl) rfl (by kernel_rfl) (by kernel_rfl) (by kernel_rfl) (fun _ _ _ h => h) (Or.inl ⟨by kernel_rfl, ?_⟩) hH ?_
      · intro w1 hB
        obtain ⟨p0, p1, p2, -, -, -⟩ := at_block (carry XA5.out hB)
        obtain ⟨q0, q1, q2, -, -, -⟩ := at_block (carry XQ5.out hB)
        obtain ⟨t0, t1, t2, -, -, -⟩ := at_block (carry XP5.out hB)
        go_simp
      change wpAnyL _ _ _ _ _ _ _ _ (Act.put _ (some 48) _) _
      try simp only [Act.put, List.setIfInBounds_toArray, List.set_cons_zero, List.set_cons_succ]
      refine wpAnyL_take (bl := [11, 12, 15, 16]) (i := 10) (v := (.agg #[.bool s, .slice pa n c1, .slice pb m c2])) (by kernel_rfl) rfl (by kernel_rfl) (by kernel_rfl) (by kernel_rfl) (fun _ _ _ h => h) (Or.inl ⟨by kernel_rfl, ?_⟩) hH ?_
      · intro w1 hB
        obtain ⟨p0, p1, p2, -, -, -⟩ := at_block (carry XA5.out hB)
        obtain ⟨q0, q1, q2, -, -, -⟩ := at_block (carry XQ5.out hB)
        obtain ⟨t0, t1, t2, -, -, -⟩ := at_block (carry XP5.out hB)
        go_simp
      change wpAnyL _ _ _ _ _ _ _ _ (Act.put _ (some 50) _) _
      try simp only [Act.put, List.setIfInBounds_toArray, List.set_cons_zero, List.set_cons_succ]
      refine wpAnyL_take (bl := [15, 16]) (i := 13) (v := (.agg #[.bool rq'.s, .slice rq'.ao rq'.n rq'.ca, .slice rq'.bo rq'.m rq'.cb])) (by kernel_rfl) rfl (by kernel_rfl) (by kernel_rfl) (by kernel_rfl) (fun _ _ _ h => h) (Or.inl ⟨by kernel_rfl, ?_⟩) hH ?_
      · intro w1 hB
        obtain ⟨p0, p1, p2, -, -, -⟩ := at_block (carry XA5.out hB)
        obtain ⟨q0, q1, q2, -, -, -⟩ := at_block (carry XQ5.out hB)
        obtain ⟨t0, t1, t2, -, -, -⟩ := at_block (carry XP5.out hB)
        go_simp
      change wpAnyL _ _ _ _ _ _ _ _ (Act.put _ (some 53) _) _
      try simp only [Act.put, List.setIfInBounds_toArray, List.set_cons_zero, List.set_cons_succ]
      refine wpAnyL_take (bl := [15, 16]) (i := 14) (v := (.agg #[.bool s5, .slice a5 n5 c5, .slice o5 m5 d5])) (by kernel_rfl) rfl (by kernel_rfl) (by kernel_rfl) (by kernel_rfl) (fun _ _ _ h => h) (Or.inl ⟨by kernel_rfl, ?_⟩) hH ?_
      · intro w1 hB
        obtain ⟨p0, p1, p2, -, -, -⟩ := at_block (carry XA5.out hB)
        obtain ⟨q0, q1, q2, -, -, -⟩ := at_block (carry XQ5.out hB)
        obtain ⟨t0, t1, t2, -, -, -⟩ := at_block (carry XP5.out hB)
        go_simp
      change wpAnyL _ _ _ _ _ _ _ _ (Act.put _ (some 54) _) _
      try simp only [Act.put, List.setIfInBounds_toArray, List.set_cons_zero, List.set_cons_succ]
      refine wpAnyL_pure (i := 17) (v := (.int .i64 0)) rfl (by kernel_rfl) (by kernel_rfl) (by kernel_rfl) (fun _ _ _ h => h) (Or.inl ⟨by kernel_rfl, ?_⟩) ?_
      · intro w1 hB
        go_simp
      change wpAnyL _ _ _ _ _ _ _ _ (Act.put _ (some 57) _) _
      try simp only [Act.put, List.setIfInBounds_toArray, List.set_cons_zero, List.set_cons_succ]
      refine wpAnyL_ready (rs := [1, 11]) (by kernel_rfl) (by simp) ?_
      refine AllReadyL.cons rfl (fun K hK => ?_) (AllReadyL.cons rfl (fun K hK => ?_) AllReadyL.nil)
      · go_simp
        refine (Normalize_q _ _ _ _ _ _ _ 12 _ _ (QA5.out.below hH)).mono ?_
        rintro e V1 ⟨s1', a1, n1, e1, o1, m1, d1, rfl, cq1, g1⟩
        have b1 : Below W5.heap.size W5 V1 := keepB g1 hH (Nat.le_refl _)
        have F1 : Hid (FrS W3.heap.size V1 ⟨s1', a1, n1, e1, o1, m1, d1⟩) := CQ.frs (cq1.mono (Nat.le_trans HB5.out.size (Below.size hH)))
        clear cq1
        clear g1
        try go_simp
        refine hK.out _ _ b1 (fun hH1 => ?_)
        clear hK K
        try simp only [Act.put, List.setIfInBounds_toArray, List.set_cons_zero, List.set_cons_succ]
        refine wpAnyL_ready (rs := [4, 11]) (by kernel_rfl) (by simp) ?_
        refine AllReadyL.cons rfl (fun K hK => ?_) (AllReadyL.cons rfl (fun K hK => ?_) AllReadyL.nil)
        · go_simp
          refine (Add_q _ _ _ _ _ _ _ _ _ _ _ _ _ _ 12 _ _ _ (QA5.out.below hH1) (cq_zero 0 _ 12 (by omega) (by omega)).rq (by omega)).mono ?_
          rintro e V4 ⟨s4', a4, n4, e4, o4, m4, d4, rfl, cq4, g4⟩
          have b4 : Below W5.heap.size W5 V4 := keepB g4 hH1 (Nat.le_refl _)
          have F4 : Hid (FrS W3.heap.size V4 ⟨s4', a4, n4, e4, o4, m4, d4⟩) := CQ.frs (cq4.mono (Nat.le_trans HB5.out.size (Below.size hH1)))
          clear cq4
          replace F1 := Lib.hid (F1.out.below g4)
          clear g4
          try go_simp
          refine hK.out _ _ b4 (fun hH4 => ?_)
          clear hK K
          try simp only [Act.put, List.setIfInBounds_toArray, List.set_cons_zero, List.set_cons_succ]
          refine wpAnyL_ready (rs := [6, 11]) (by kernel_rfl) (by simp) ?_
          refine AllReadyL.cons rfl (fun K hK => ?_) (AllReadyL.cons rfl (fun K hK => ?_) AllReadyL.nil)
          · go_simp
            refine (rOne_q _).mono ?_
            rintro e V6 ⟨s6', a6, n6, e6, o6, m6, d6, rfl, cq6, g6⟩
            have b6 : Below W5.heap.size W5 V6 := keepB g6 hH4 (Nat.le_refl _)
            replace cq6 := Lib.hid cq6
            replace F1 := Lib.hid (F1.out.below g6)
            replace F4 := Lib.hid (F4.out.below g6)
            clear g6
            try go_simp
            refine hK.out _ _ b6 (fun hH6 => ?_)
            clear hK K
            try simp only [Act.put, List.setIfInBounds_toArray, List.set_cons_zero, List.set_cons_succ]
            refine wpAnyL_ready (rs := [7, 11]) (by kernel_rfl) (by simp) ?_
            refine AllReadyL.cons rfl (fun K hK => ?_) (AllReadyL.cons rfl (fun K hK => ?_) AllReadyL.nil)
            · go_simp
              refine (Mul_q _ _ _ _ _ _ _ _ _ _ _ _ _ _ 12 _ _ _ (QA5.out.below hH6) (CQ.upk cq6.out (k' := 12) (by omega) (by omega)).rq (by omega)).mono ?_
              rintro e V7 ⟨s7', a7, n7, e7, o7, m7, d7, rfl, cq7, g7⟩
              have b7 : Below W5.heap.size W5 V7 := keepB g7 hH6 (Nat.le_refl _)
              have F7 : Hid (FrS W3.heap.size V7 ⟨s7', a7, n7, e7, o7, m7, d7⟩) := CQ.frs (cq7.mono (Nat.le_trans HB5.out.size (Below.size hH6)))
              clear cq7
              clear cq6
              replace F1 := Lib.hid (F1.out.below g7)
              replace F4 := Lib.hid (F4.out.below g7)
              clear g7
              try go_simp
              refine hK.out _ _ b7 (fun hH7 => ?_)
              clear hK K
              try simp only [Act.put, List.setIfInBounds_toArray, List.set_cons_zero, List.set_cons_succ]
              refine wpAnyL_ready (rs := [9, 11]) (by kernel_rfl) (by simp) ?_
              refine AllReadyL.cons rfl (fun K hK => ?_) (AllReadyL.cons rfl (fun K hK => ?_) AllReadyL.nil)
              · go_simp
                refine (Negate_q _ _ _ _ _ _ _ 12 _ _ (QA5.out.below hH7)).mono ?_
                rintro e V9 ⟨s9', a9, n9, e9, o9, m9, d9, rfl, cq9, g9⟩
                have b9 : Below W5.heap.size W5 V9 := keepB g9 hH7 (Nat.le_refl _)
                have F9 : Hid (FrS W3.heap.size V9 ⟨s9', a9, n9, e9, o9, m9, d9⟩) := CQ.frs (cq9.mono (Nat.le_trans HB5.out.size (Below.size hH7)))
                clear cq9
                replace F1 := Lib.hid (F1.out.below g9)
                replace F4 := Lib.hid (F4.out.below g9)
                replace F7 := Lib.hid (F7.out.below g9)
                clear g9
                try go_simp
                refine hK.out _ _ b9 (fun hH9 => ?_)
                clear hK K
                try simp only [Act.put, List.setIfInBounds_toArray, List.set_cons_zero, List.set_cons_succ]
                refine wpAnyL_ready (rs := [11]) (by kernel_rfl) (by simp) ?_
                refine AllReadyL.cons rfl (fun K hK => ?_) AllReadyL.nil
                go_simp
                obtain ⟨V11, hV11⟩ : ∃ W, W = V9.alloc (.cells #[.bool s, .slice pa n c1, .slice pb m c2] 25) := ⟨_, rfl⟩
                obtain ⟨l11, hl11⟩ : ∃ g, g = V9.heap.size := ⟨_, rfl⟩
                have k11 : Hid (V11.heap[l11]? = some (.cells #[.bool s, .slice pa n c1, .slice pb m c2] 25 (0, 0))) := by unfold Hid; rw [hV11, hl11]; exact heap_alloc_new V9 (.cells #[.bool s, .slice pa n c1, .slice pb m c2] 25)
                have b11 : Below W5.heap.size W5 V11 := by rw [hV11]; exact Below.alloc hH9 (Below.size hH9) _
                have n11 : Hid (W5.heap.size ≤ l11) := by unfold Hid; rw [hl11]; exact Below.size hH9
                have g11 : Below V9.heap.size V9 V11 := by rw [hV11]; exact below_new V9 _
                replace F1 := Lib.hid (F1.out.below g11)
                replace F4 := Lib.hid (F4.out.below g11)
                replace F7 := Lib.hid (F7.out.below g11)
                replace F9 := Lib.hid (F9.out.below g11)
                clear g11
                try rw [← hV11]
                try rw [← hl11]
                try rw [← hV11]
                clear hV11 hl11
                try go_simp
                refine hK.out _ _ b11 (fun hH11 => ?_)
                clear hK K
                try simp only [Act.put, List.setIfInBounds_toArray, List.set_cons_zero, List.set_cons_succ]
                refine wpAnyL_ready (rs := [12]) (by kernel_rfl) (by simp) ?_
                refine AllReadyL.cons rfl (fun K hK => ?_) AllReadyL.nil
                go_simp
                have hra : RdR V11 (some ⟨l11, 0, none⟩) 1 [⟨s, pa, n, c1, pb, m, c2⟩] := lit_rdr k11.out
                refine (Sum_b (fun _ => p) (some ⟨l11, 0, none⟩) 1 [⟨s, pa, n, c1, pb, m, c2⟩] _ hra (by simp) (fun u hu => by obtain rfl : u = _ := (by simpa using hu); exact (QA5.out.below hH11))).mono ?_
                rintro e V12 ⟨s12', a12, n12, e12, o12, m12, d12, rfl, cq12, g12⟩
                have b12 : Below W5.heap.size W5 V12 := keepB g12 hH11 (Nat.le_refl _)
                have F12 : Hid (FrS W3.heap.size V12 ⟨s12', a12, n12, e12, o12, m12, d12⟩) := CQ.frs (cq12.mono (Nat.le_trans HB5.out.size (Below.size hH11)))
                clear cq12
                clear hra
                replace F1 := Lib.hid (F1.out.below g12)
                replace F4 := Lib.hid (F4.out.below g12)
                replace F7 := Lib.hid (F7.out.below g12)
                replace F9 := Lib.hid (F9.out.below g12)
                clear g12
                try go_simp
                refine hK.out _ _ b12 (fun hH12 => ?_)
                clear hK K
                try simp only [Act.put, List.setIfInBounds_toArray, List.set_cons_zero, List.set_cons_succ]
                refine wpAnyL_ready (rs := [15]) (by kernel_rfl) (by simp) ?_
                refine AllReadyL.cons rfl (fun K hK => ?_) AllReadyL.nil
                go_simp
                obtain ⟨V15, hV15⟩ : ∃ W, W = V12.alloc (.cells #[.bool s1', .slice a1 n1 e1, .slice o1 m1 d1, .bool s4', .slice a4 n4 e4, .slice o4 m4 d4, .bool s7', .slice a7 n7 e7, .slice o7 m7 d7, .bool s9', .slice a9 n9 e9, .slice o9 m9 d9, .bool s12', .slice a12 n12 e12, .slice o12 m12 d12, .bool rq'.s, .slice rq'.ao rq'.n rq'.ca, .slice rq'.bo rq'.m rq'.cb, .bool s5, .slice a5 n5 c5, .slice o5 m5 d5] 25) := ⟨_, rfl⟩
                obtain ⟨l15, hl15⟩ : ∃ g, g = V12.heap.size := ⟨_, rfl⟩
                have k15 : Hid (V15.heap[l15]? = some (.cells #[.bool s1', .slice a1 n1 e1, .slice o1 m1 d1, .bool s4', .slice a4 n4 e4, .slice o4 m4 d4, .bool s7', .slice a7 n7 e7, .slice o7 m7 d7, .bool s9', .slice a9 n9 e9, .slice o9 m9 d9, .bool s12', .slice a12 n12 e12, .slice o12 m12 d12, .bool rq'.s, .slice rq'.ao rq'.n rq'.ca, .slice rq'.bo rq'.m rq'.cb, .bool s5, .slice a5 n5 c5, .slice o5 m5 d5] 25 (0, 0))) := by unfold Hid; rw [hV15, hl15]; exact heap_alloc_new V12 (.cells #[.bool s1', .slice a1 n1 e1, .slice o1 m1 d1, .bool s4', .slice a4 n4 e4, .slice o4 m4 d4, .bool s7', .slice a7 n7 e7, .slice o7 m7 d7, .bool s9', .slice a9 n9 e9, .slice o9 m9 d9, .bool s12', .slice a12 n12 e12, .slice o12 m12 d12, .bool rq'.s, .slice rq'.ao rq'.n rq'.ca, .slice rq'.bo rq'.m rq'.cb, .bool s5, .slice a5 n5 c5, .slice o5 m5 d5] 25)
                have b15 : Below W5.heap.size W5 V15 := by rw [hV15]; exact Below.alloc hH12 (Below.size hH12) _
                have n15 : Hid (W5.heap.size ≤ l15) := by unfold Hid; rw [hl15]; exact Below.size hH12
                have g15 : Below V12.heap.size V12 V15 := by rw [hV15]; exact below_new V12 _
                replace F1 := Lib.hid (F1.out.below g15)
                replace F4 := Lib.hid (F4.out.below g15)
                replace F7 := Lib.hid (F7.out.below g15)
                replace F9 := Lib.hid (F9.out.below g15)
                replace F12 := Lib.hid (F12.out.below g15)
                clear g15
                try rw [← hV15]
                try rw [← hl15]
                try rw [← hV15]
                clear hV15 hl15
                try go_simp
                refine hK.out _ _ b15 (fun hH15 => ?_)
                clear hK K
                try simp only [Act.put, List.setIfInBounds_toArray, List.set_cons_zero, List.set_cons_succ]
                refine wpAnyL_pure (i := 16) (v := (.int .i64 7)) rfl (by kernel_rfl) (by kernel_rfl) (by kernel_rfl) (fun _ _ _ h => h) (Or.inl ⟨by kernel_rfl, ?_⟩) ?_
                · intro w1 hB
                  go_simp
                change wpAnyL _ _ _ _ _ _ _ _ (Act.put _ (some 56) _) _
                try simp only [Act.put, List.setIfInBounds_toArray, List.set_cons_zero, List.set_cons_succ]
                refine wpAnyL_done (by kernel_rfl) ?_ _
                go_wp2_with fail
                go_meet
                exact ⟨l15, _, [⟨s1', a1, n1, e1, o1, m1, d1⟩, ⟨s4', a4, n4, e4, o4, m4, d4⟩, ⟨s7', a7, n7, e7, o7, m7, d7⟩, ⟨s9', a9, n9, e9, o9, m9, d9⟩, ⟨s12', a12, n12, e12, o12, m12, d12⟩, rq', ⟨s5, a5, n5, c5, o5, m5, d5⟩], rfl, rfl, rfl, k15.out, ⟨lit7 _ _ _ _ _ _ _, rfl⟩, seven F1.out F4.out F7.out F9.out F12.out (FQ5.out.below hH15) (FP5.out.below hH15), n15.out, hH15⟩
              · go_simp
                obtain ⟨V11, hV11⟩ : ∃ W, W = V7.alloc (.cells #[.bool s, .slice pa n c1, .slice pb m c2] 25) := ⟨_, rfl⟩
                obtain ⟨l11, hl11⟩ : ∃ g, g = V7.heap.size := ⟨_, rfl⟩
                have k11 : Hid (V11.heap[l11]? = some (.cells #[.bool s, .slice pa n c1, .slice pb m c2] 25 (0, 0))) := by unfold Hid; rw [hV11, hl11]; exact heap_alloc_new V7 (.cells #[.bool s, .slice pa n c1, .slice pb m c2] 25)
                have b11 : Below W5.heap.size W5 V11 := by rw [hV11]; exact Below.alloc hH7 (Below.size hH7) _
                have n11 : Hid (W5.heap.size ≤ l11) := by unfold Hid; rw [hl11]; exact Below.size hH7
                have g11 : Below V7.heap.size V7 V11 := by rw [hV11]; exact below_new V7 _
                replace F1 := Lib.hid (F1.out.below g11)
                replace F4 := Lib.hid (F4.out.below g11)
                replace F7 := Lib.hid (F7.out.below g11)
                clear g11
                try rw [← hV11]
                try rw [← hl11]
                try rw [← hV11]
                clear hV11 hl11
                try go_simp
                refine hK.out _ _ b11 (fun hH11 => ?_)
                clear hK K
                try simp only [Act.put, List.setIfInBounds_toArray, List.set_cons_zero, List.set_cons_succ]
                refine wpAnyL_ready (rs := [9]) (by kernel_rfl) (by simp) ?_
                refine AllReadyL.cons rfl (fun K hK => ?_) AllReadyL.nil
                go_simp
                refine (Negate_q _ _ _ _ _ _ _ 12 _ _ (QA5.out.below hH11)).mono ?_
                rintro e V9 ⟨s9', a9, n9, e9, o9, m9, d9, rfl, cq9, g9⟩
                have b9 : Below W5.heap.size W5 V9 := keepB g9 hH11 (Nat.le_refl _)
                have F9 : Hid (FrS W3.heap.size V9 ⟨s9', a9, n9, e9, o9, m9, d9⟩) := CQ.frs (cq9.mono (Nat.le_trans HB5.out.size (Below.size hH11)))
                clear cq9
                replace F1 := Lib.hid (F1.out.below g9)
                replace F4 := Lib.hid (F4.out.below g9)
                replace F7 := Lib.hid (F7.out.below g9)
                replace k11 := Lib.hid (carry k11.out g9)
                clear g9
                try go_simp
                refine hK.out _ _ b9 (fun hH9 => ?_)
                clear hK K
                try simp only [Act.put, List.setIfInBounds_toArray, List.set_cons_zero, List.set_cons_succ]
                refine wpAnyL_ready (rs := [12]) (by kernel_rfl) (by simp) ?_
                refine AllReadyL.cons rfl (fun K hK => ?_) AllReadyL.nil
                go_simp
                have hra : RdR V9 (some ⟨l11, 0, none⟩) 1 [⟨s, pa, n, c1, pb, m, c2⟩] := lit_rdr k11.out
                refine (Sum_b (fun _ => p) (some ⟨l11, 0, none⟩) 1 [⟨s, pa, n, c1, pb, m, c2⟩] _ hra (by simp) (fun u hu => by obtain rfl : u = _ := (by simpa using hu); exact (QA5.out.below hH9))).mono ?_
                rintro e V12 ⟨s12', a12, n12, e12, o12, m12, d12, rfl, cq12, g12⟩
                have b12 : Below W5.heap.size W5 V12 := keepB g12 hH9 (Nat.le_refl _)
                have F12 : Hid (FrS W3.heap.size V12 ⟨s12', a12, n12, e12, o12, m12, d12⟩) := CQ.frs (cq12.mono (Nat.le_trans HB5.out.size (Below.size hH9)))
                clear cq12
                clear hra
                replace F1 := Lib.hid (F1.out.below g12)
                replace F4 := Lib.hid (F4.out.below g12)
                replace F7 := Lib.hid (F7.out.below g12)
                replace F9 := Lib.hid (F9.out.below g12)
                clear g12
                try go_simp
                refine hK.out _ _ b12 (fun hH12 => ?_)
                clear hK K
                try simp only [Act.put, List.setIfInBounds_toArray, List.set_cons_zero, List.set_cons_succ]
                refine wpAnyL_ready (rs := [15]) (by kernel_rfl) (by simp) ?_
                refine AllReadyL.cons rfl (fun K hK => ?_) AllReadyL.nil
                go_simp
                obtain ⟨V15, hV15⟩ : ∃ W, W = V12.alloc (.cells #[.bool s1', .slice a1 n1 e1, .slice o1 m1 d1, .bool s4', .slice a4 n4 e4, .slice o4 m4 d4, .bool s7', .slice a7 n7 e7, .slice o7 m7 d7, .bool s9', .slice a9 n9 e9, .slice o9 m9 d9, .bool s12', .slice a12 n12 e12, .slice o12 m12 d12, .bool rq'.s, .slice rq'.ao rq'.n rq'.ca, .slice rq'.bo rq'.m rq'.cb, .bool s5, .slice a5 n5 c5, .slice o5 m5 d5] 25) := ⟨_, rfl⟩
                obtain ⟨l15, hl15⟩ : ∃ g, g = V12.heap.size := ⟨_, rfl⟩
                have k15 : Hid (V15.heap[l15]? = some (.cells #[.bool s1', .slice a1 n1 e1, .slice o1 m1 d1, .bool s4', .slice a4 n4 e4, .slice o4 m4 d4, .bool s7', .slice a7 n7 e7, .slice o7 m7 d7, .bool s9', .slice a9 n9 e9, .slice o9 m9 d9, .bool s12', .slice a12 n12 e12, .slice o12 m12 d12, .bool rq'.s, .slice rq'.ao rq'.n rq'.ca, .slice rq'.bo rq'.m rq'.cb, .bool s5, .slice a5 n5 c5, .slice o5 m5 d5] 25 (0, 0))) := by unfold Hid; rw [hV15, hl15]; exact heap_alloc_new V12 (.cells #[.bool s1', .slice a1 n1 e1, .slice o1 m1 d1, .bool s4', .slice a4 n4 e4, .slice o4 m4 d4, .bool s7', .slice a7 n7 e7, .slice o7 m7 d7, .bool s9', .slice a9 n9 e9, .slice o9 m9 d9, .bool s12', .slice a12 n12 e12, .slice o12 m12 d12, .bool rq'.s, .slice rq'.ao rq'.n rq'.ca, .slice rq'.bo rq'.m rq'.cb, .bool s5, .slice a5 n5 c5, .slice o5 m5 d5] 25)
                have b15 : Below W5.heap.size W5 V15 := by rw [hV15]; exact Below.alloc hH12 (Below.size hH12) _
                have n15 : Hid (W5.heap.size ≤ l15) := by unfold Hid; rw [hl15]; exact Below.size hH12
                have g15 : Below V12.heap.size V12 V15 := by rw [hV15]; exact below_new V12 _
                replace F1 := Lib.hid (F1.out.below g15)
                replace F4 := Lib.hid (F4.out.below g15)
                replace F7 := Lib.hid (F7.out.below g15)
                replace F9 := Lib.hid (F9.out.below g15)
                replace F12 := Lib.hid (F12.out.below g15)
                clear g15
                try rw [← hV15]
                try rw [← hl15]
                try rw [← hV15]
                clear hV15 hl15
                try go_simp
                refine hK.out _ _ b15 (fun hH15 => ?_)
                clear hK K
                try simp only [Act.put, List.setIfInBounds_toArray, List.set_cons_zero, List.set_cons_succ]
                refine wpAnyL_pure (i := 16) (v := (.int .i64 7)) rfl (by kernel_rfl) (by kernel_rfl) (by kernel_rfl) (fun _ _ _ h => h) (Or.inl ⟨by kernel_rfl, ?_⟩) ?_
                · intro w1 hB
                  go_simp
                change wpAnyL _ _ _ _ _ _ _ _ (Act.put _ (some 56) _) _
                try simp only [Act.put, List.setIfInBounds_toArray, List.set_cons_zero, List.set_cons_succ]
                refine wpAnyL_done (by kernel_rfl) ?_ _
                go_wp2_with fail
                go_meet
                exact ⟨l15, _, [⟨s1', a1, n1, e1, o1, m1, d1⟩, ⟨s4', a4, n4, e4, o4, m4, d4⟩, ⟨s7', a7, n7, e7, o7, m7, d7⟩, ⟨s9', a9, n9, e9, o9, m9, d9⟩, ⟨s12', a12, n12, e12, o12, m12, d12⟩, rq', ⟨s5, a5, n5, c5, o5, m5, d5⟩], rfl, rfl, rfl, k15.out, ⟨lit7 _ _ _ _ _ _ _, rfl⟩, seven F1.out F4.out F7.out F9.out F12.out (FQ5.out.below hH15) (FP5.out.below hH15), n15.out, hH15⟩
            · go_simp
              obtain ⟨V11, hV11⟩ : ∃ W, W = V6.alloc (.cells #[.bool s, .slice pa n c1, .slice pb m c2] 25) := ⟨_, rfl⟩
              obtain ⟨l11, hl11⟩ : ∃ g, g = V6.heap.size := ⟨_, rfl⟩
              have k11 : Hid (V11.heap[l11]? = some (.cells #[.bool s, .slice pa n c1, .slice pb m c2] 25 (0, 0))) := by unfold Hid; rw [hV11, hl11]; exact heap_alloc_new V6 (.cells #[.bool s, .slice pa n c1, .slice pb m c2] 25)
              have b11 : Below W5.heap.size W5 V11 := by rw [hV11]; exact Below.alloc hH6 (Below.size hH6) _
              have n11 : Hid (W5.heap.size ≤ l11) := by unfold Hid; rw [hl11]; exact Below.size hH6
              have g11 : Below V6.heap.size V6 V11 := by rw [hV11]; exact below_new V6 _
              replace F1 := Lib.hid (F1.out.below g11)
              replace F4 := Lib.hid (F4.out.below g11)
              replace cq6 := Lib.hid (cq6.out.below g11)
              clear g11
              try rw [← hV11]
              try rw [← hl11]
              try rw [← hV11]
              clear hV11 hl11
              try go_simp
              refine hK.out _ _ b11 (fun hH11 => ?_)
              clear hK K
              try simp only [Act.put, List.setIfInBounds_toArray, List.set_cons_zero, List.set_cons_succ]
              refine wpAnyL_ready (rs := [7]) (by kernel_rfl) (by simp) ?_
              refine AllReadyL.cons rfl (fun K hK => ?_) AllReadyL.nil
              go_simp
              refine (Mul_q _ _ _ _ _ _ _ _ _ _ _ _ _ _ 12 _ _ _ (QA5.out.below hH11) (CQ.upk cq6.out (k' := 12) (by omega) (by omega)).rq (by omega)).mono ?_
              rintro e V7 ⟨s7', a7, n7, e7, o7, m7, d7, rfl, cq7, g7⟩
              have b7 : Below W5.heap.size W5 V7 := keepB g7 hH11 (Nat.le_refl _)
              have F7 : Hid (FrS W3.heap.size V7 ⟨s7', a7, n7, e7, o7, m7, d7⟩) := CQ.frs (cq7.mono (Nat.le_trans HB5.out.size (Below.size hH11)))
              clear cq7
              clear cq6
              replace F1 := Lib.hid (F1.out.below g7)
              replace F4 := Lib.hid (F4.out.below g7)
              replace k11 := Lib.hid (carry k11.out g7)
              clear g7
              try go_simp
              refine hK.out _ _ b7 (fun hH7 => ?_)
              clear hK K
              try simp only [Act.put, List.setIfInBounds_toArray, List.set_cons_zero, List.set_cons_succ]
              refine wpAnyL_ready (rs := [9]) (by kernel_rfl) (by simp) ?_
              refine AllReadyL.cons rfl (fun K hK => ?_) AllReadyL.nil
              go_simp
              refine (Negate_q _ _ _ _ _ _ _ 12 _ _ (QA5.out.below hH7)).mono ?_
              rintro e V9 ⟨s9', a9, n9, e9, o9, m9, d9, rfl, cq9, g9⟩
              have b9 : Below W5.heap.size W5 V9 := keepB g9 hH7 (Nat.le_refl _)
              have F9 : Hid (FrS W3.heap.size V9 ⟨s9', a9, n9, e9, o9, m9, d9⟩) := CQ.frs (cq9.mono (Nat.le_trans HB5.out.size (Below.size hH7)))
              clear cq9
              replace F1 := Lib.hid (F1.out.below g9)
              replace F4 := Lib.hid (F4.out.below g9)
              replace k11 := Lib.hid (carry k11.out g9)
              replace F7 := Lib.hid (F7.out.below g9)
              clear g9
              try go_simp
              refine hK.out _ _ b9 (fun hH9 => ?_)
              clear hK K
              try simp only [Act.put, List.setIfInBounds_toArray, List.set_cons_zero, List.set_cons_succ]
              refine wpAnyL_ready (rs := [12]) (by kernel_rfl) (by simp) ?_
              refine AllReadyL.cons rfl (fun K hK => ?_) AllReadyL.nil
              go_simp
              have hra : RdR V9 (some ⟨l11, 0, none⟩) 1 [⟨s, pa, n, c1, pb, m, c2⟩] := lit_rdr k11.out
              refine (Sum_b (fun _ => p) (some ⟨l11, 0, none⟩) 1 [⟨s, pa, n, c1, pb, m, c2⟩] _ hra (by simp) (fun u hu => by obtain rfl : u = _ := (by simpa using hu); exact (QA5.out.below hH9))).mono ?_
              rintro e V12 ⟨s12', a12, n12, e12, o12, m12, d12, rfl, cq12, g12⟩
              have b12 : Below W5.heap.size W5 V12 := keepB g12 hH9 (Nat.le_refl _)
              have F12 : Hid (FrS W3.heap.size V12 ⟨s12', a12, n12, e12, o12, m12, d12⟩) := CQ.frs (cq12.mono (Nat.le_trans HB5.out.size (Below.size hH9)))
              clear cq12
              clear hra
              replace F1 := Lib.hid (F1.out.below g12)
              replace F4 := Lib.hid (F4.out.below g12)
              replace F7 := Lib.hid (F7.out.below g12)
              replace F9 := Lib.hid (F9.out.below g12)
              clear g12
              try go_simp
              refine hK.out _ _ b12 (fun hH12 => ?_)
              clear hK K
              try simp only [Act.put, List.setIfInBounds_toArray, List.set_cons_zero, List.set_cons_succ]
              refine wpAnyL_ready (rs := [15]) (by kernel_rfl) (by simp) ?_
              refine AllReadyL.cons rfl (fun K hK => ?_) AllReadyL.nil
              go_simp
              obtain ⟨V15, hV15⟩ : ∃ W, W = V12.alloc (.cells #[.bool s1', .slice a1 n1 e1, .slice o1 m1 d1, .bool s4', .slice a4 n4 e4, .slice o4 m4 d4, .bool s7', .slice a7 n7 e7, .slice o7 m7 d7, .bool s9', .slice a9 n9 e9, .slice o9 m9 d9, .bool s12', .slice a12 n12 e12, .slice o12 m12 d12, .bool rq'.s, .slice rq'.ao rq'.n rq'.ca, .slice rq'.bo rq'.m rq'.cb, .bool s5, .slice a5 n5 c5, .slice o5 m5 d5] 25) := ⟨_, rfl⟩
              obtain ⟨l15, hl15⟩ : ∃ g, g = V12.heap.size := ⟨_, rfl⟩
              have k15 : Hid (V15.heap[l15]? = some (.cells #[.bool s1', .slice a1 n1 e1, .slice o1 m1 d1, .bool s4', .slice a4 n4 e4, .slice o4 m4 d4, .bool s7', .slice a7 n7 e7, .slice o7 m7 d7, .bool s9', .slice a9 n9 e9, .slice o9 m9 d9, .bool s12', .slice a12 n12 e12, .slice o12 m12 d12, .bool rq'.s, .slice rq'.ao rq'.n rq'.ca, .slice rq'.bo rq'.m rq'.cb, .bool s5, .slice a5 n5 c5, .slice o5 m5 d5] 25 (0, 0))) := by unfold Hid; rw [hV15, hl15]; exact heap_alloc_new V12 (.cells #[.bool s1', .slice a1 n1 e1, .slice o1 m1 d1, .bool s4', .slice a4 n4 e4, .slice o4 m4 d4, .bool s7', .slice a7 n7 e7, .slice o7 m7 d7, .bool s9', .slice a9 n9 e9, .slice o9 m9 d9, .bool s12', .slice a12 n12 e12, .slice o12 m12 d12, .bool rq'.s, .slice rq'.ao rq'.n rq'.ca, .slice rq'.bo rq'.m rq'.cb, .bool s5, .slice a5 n5 c5, .slice o5 m5 d5] 25)
              have b15 : Below W5.heap.size W5 V15 := by rw [hV15]; exact Below.alloc hH12 (Below.size hH12) _
              have n15 : Hid (W5.heap.size ≤ l15) := by unfold Hid; rw [hl15]; exact Below.size hH12
              have g15 : Below V12.heap.size V12 V15 := by rw [hV15]; exact below_new V12 _
              replace F1 := Lib.hid (F1.out.below g15)
              replace F4 := Lib.hid (F4.out.below g15)
              replace F7 := Lib.hid (F7.out.below g15)
              replace F9 := Lib.hid (F9.out.below g15)
              replace F12 := Lib.hid (F12.out.below g15)
              clear g15
              try rw [← hV15]
              try rw [← hl15]
              try rw [← hV15]
              clear hV15 hl15
              try go_simp
              refine hK.out _ _ b15 (fun hH15 => ?_)
              clear hK K
              try simp only [Act.put, List.setIfInBounds_toArray, List.set_cons_zero, List.set_cons_succ]
              refine wpAnyL_pure (i := 16) (v := (.int .i64 7)) rfl (by kernel_rfl) (by kernel_rfl) (by kernel_rfl) (fun _ _ _ h => h) (Or.inl ⟨by kernel_rfl, ?_⟩) ?_
              · intro w1 hB
                go_simp
              change wpAnyL _ _ _ _ _ _ _ _ (Act.put _ (some 56) _) _
              try simp only [Act.put, List.setIfInBounds_toArray, List.set_cons_zero, List.set_cons_succ]
              refine wpAnyL_done (by kernel_rfl) ?_ _
              go_wp2_with fail
              go_meet
              exact ⟨l15, _, [⟨s1', a1, n1, e1, o1, m1, d1⟩, ⟨s4', a4, n4, e4, o4, m4, d4⟩, ⟨s7', a7, n7, e7, o7, m7, d7⟩, ⟨s9', a9, n9, e9, o9, m9, d9⟩, ⟨s12', a12, n12, e12, o12, m12, d12⟩, rq', ⟨s5, a5, n5, c5, o5, m5, d5⟩], rfl, rfl, rfl, k15.out, ⟨lit7 _ _ _ _ _ _ _, rfl⟩, seven F1.out F4.out F7.out F9.out F12.out (FQ5.out.below hH15) (FP5.out.below hH15), n15.out, hH15⟩
          · go_simp
            obtain ⟨V11, hV11⟩ : ∃ W, W = V4.alloc (.cells #[.bool s, .slice pa n c1, .slice pb m c2] 25) := ⟨_, rfl⟩
            obtain ⟨l11, hl11⟩ : ∃ g, g = V4.heap.size := ⟨_, rfl⟩
            have k11 : Hid (V11.heap[l11]? = some (.cells #[.bool s, .slice pa n c1, .slice pb m c2] 25 (0, 0))) := by unfold Hid; rw [hV11, hl11]; exact heap_alloc_new V4 (.cells #[.bool s, .slice pa n c1, .slice pb m c2] 25)
            have b11 : Below W5.heap.size W5 V11 := by rw [hV11]; exact Below.alloc hH4 (Below.size hH4) _
            have n11 : Hid (W5.heap.size ≤ l11) := by unfold Hid; rw [hl11]; exact Below.size hH4
            have g11 : Below V4.heap.size V4 V11 := by rw [hV11]; exact below_new V4 _
            replace F1 := Lib.hid (F1.out.below g11)
            replace F4 := Lib.hid (F4.out.below g11)
            clear g11
            try rw [← hV11]
            try rw [← hl11]
            try rw [← hV11]
            clear hV11 hl11
            try go_simp
            refine hK.out _ _ b11 (fun hH11 => ?_)
            clear hK K
            try simp only [Act.put, List.setIfInBounds_toArray, List.set_cons_zero, List.set_cons_succ]
            refine wpAnyL_ready (rs := [6]) (by kernel_rfl) (by simp) ?_
            refine AllReadyL.cons rfl (fun K hK => ?_) AllReadyL.nil
            go_simp
            refine (rOne_q _).mono ?_
            rintro e V6 ⟨s6', a6, n6, e6, o6, m6, d6, rfl, cq6, g6⟩
            have b6 : Below W5.heap.size W5 V6 := keepB g6 hH11 (Nat.le_refl _)
            replace cq6 := Lib.hid cq6
            replace F1 := Lib.hid (F1.out.below g6)
            replace F4 := Lib.hid (F4.out.below g6)
            replace k11 := Lib.hid (carry k11.out g6)
            clear g6
            try go_simp
            refine hK.out _ _ b6 (fun hH6 => ?_)
            clear hK K
            try simp only [Act.put, List.setIfInBounds_toArray, List.set_cons_zero, List.set_cons_succ]
            refine wpAnyL_ready (rs := [7]) (by kernel_rfl) (by simp) ?_
            refine AllReadyL.cons rfl (fun K hK => ?_) AllReadyL.nil
            go_simp
            refine (Mul_q _ _ _ _ _ _ _ _ _ _ _ _ _ _ 12 _ _ _ (QA5.out.below hH6) (CQ.upk cq6.out (k' := 12) (by omega) (by omega)).rq (by omega)).mono ?_
            rintro e V7 ⟨s7', a7, n7, e7, o7, m7, d7, rfl, cq7, g7⟩
            have b7 : Below W5.heap.size W5 V7 := keepB g7 hH6 (Nat.le_refl _)
            have F7 : Hid (FrS W3.heap.size V7 ⟨s7', a7, n7, e7, o7, m7, d7⟩) := CQ.frs (cq7.mono (Nat.le_trans HB5.out.size (Below.size hH6)))
            clear cq7
            clear cq6
            replace F1 := Lib.hid (F1.out.below g7)
            replace F4 := Lib.hid (F4.out.below g7)
            replace k11 := Lib.hid (carry k11.out g7)
            clear g7
            try go_simp
            refine hK.out _ _ b7 (fun hH7 => ?_)
            clear hK K
            try simp only [Act.put, List.setIfInBounds_toArray, List.set_cons_zero, List.set_cons_succ]
            refine wpAnyL_ready (rs := [9]) (by kernel_rfl) (by simp) ?_
            refine AllReadyL.cons rfl (fun K hK => ?_) AllReadyL.nil
            go_simp
            refine (Negate_q _ _ _ _ _ _ _ 12 _ _ (QA5.out.below hH7)).mono ?_
            rintro e V9 ⟨s9', a9, n9, e9, o9, m9, d9, rfl, cq9, g9⟩
            have b9 : Below W5.heap.size W5 V9 := keepB g9 hH7 (Nat.le_refl _)
            have F9 : Hid (FrS W3.heap.size V9 ⟨s9', a9, n9, e9, o9, m9, d9⟩) := CQ.frs (cq9.mono (Nat.le_trans HB5.out.size (Below.size hH7)))
            clear cq9
            replace F1 := Lib.hid (F1.out.below g9)
            replace F4 := Lib.hid (F4.out.below g9)
            replace k11 := Lib.hid (carry k11.out g9)
            replace F7 := Lib.hid (F7.out.below g9)
            clear g9
            try go_simp
            refine hK.out _ _ b9 (fun hH9 => ?_)
            clear hK K
            try simp only [Act.put, List.setIfInBounds_toArray, List.set_cons_zero, List.set_cons_succ]
            refine wpAnyL_ready (rs := [12]) (by kernel_rfl) (by simp) ?_
            refine AllReadyL.cons rfl (fun K hK => ?_) AllReadyL.nil
            go_simp
            have hra : RdR V9 (some ⟨l11, 0, none⟩) 1 [⟨s, pa, n, c1, pb, m, c2⟩] := lit_rdr k11.out
            refine (Sum_b (fun _ => p) (some ⟨l11, 0, none⟩) 1 [⟨s, pa, n, c1, pb, m, c2⟩] _ hra (by simp) (fun u hu => by obtain rfl : u = _ := (by simpa using hu); exact (QA5.out.below hH9))).mono ?_
            rintro e V12 ⟨s12', a12, n12, e12, o12, m12, d12, rfl, cq12, g12⟩
            have b12 : Below W5.heap.size W5 V12 := keepB g12 hH9 (Nat.le_refl _)
            have F12 : Hid (FrS W3.heap.size V12 ⟨s12', a12, n12, e12, o12, m12, d12⟩) := CQ.frs (cq12.mono (Nat.le_trans HB5.out.size (Below.size hH9)))
            clear cq12
            clear hra
            replace F1 := Lib.hid (F1.out.below g12)
            replace F4 := Lib.hid (F4.out.below g12)
            replace F7 := Lib.hid (F7.out.below g12)
            replace F9 := Lib.hid (F9.out.below g12)
            clear g12
            try go_simp
            refine hK.out _ _ b12 (fun hH12 => ?_)
            clear hK K
            try simp only [Act.put, List.setIfInBounds_toArray, List.set_cons_zero, List.set_cons_succ]
            refine wpAnyL_ready (rs := [15]) (by kernel_rfl) (by simp) ?_
            refine AllReadyL.cons rfl (fun K hK => ?_) AllReadyL.nil
            go_simp
            obtain ⟨V15, hV15⟩ : ∃ W, W = V12.alloc (.cells #[.bool s1', .slice a1 n1 e1, .slice o1 m1 d1, .bool s4', .slice a4 n4 e4, .slice o4 m4 d4, .bool s7', .slice a7 n7 e7, .slice o7 m7 d7, .bool s9', .slice a9 n9 e9, .slice o9 m9 d9, .bool s12', .slice a12 n12 e12, .slice o12 m12 d12, .bool rq'.s, .slice rq'.ao rq'.n rq'.ca, .slice rq'.bo rq'.m rq'.cb, .bool s5, .slice a5 n5 c5, .slice o5 m5 d5] 25) := ⟨_, rfl⟩
            obtain ⟨l15, hl15⟩ : ∃ g, g = V12.heap.size := ⟨_, rfl⟩
            have k15 : Hid (V15.heap[l15]? = some (.cells #[.bool s1', .slice a1 n1 e1, .slice o1 m1 d1, .bool s4', .slice a4 n4 e4, .slice o4 m4 d4, .bool s7', .slice a7 n7 e7, .slice o7 m7 d7, .bool s9', .slice a9 n9 e9, .slice o9 m9 d9, .bool s12', .slice a12 n12 e12, .slice o12 m12 d12, .bool rq'.s, .slice rq'.ao rq'.n rq'.ca, .slice rq'.bo rq'.m rq'.cb, .bool s5, .slice a5 n5 c5, .slice o5 m5 d5] 25 (0, 0))) := by unfold Hid; rw [hV15, hl15]; exact heap_alloc_new V12 (.cells #[.bool s1', .slice a1 n1 e1, .slice o1 m1 d1, .bool s4', .slice a4 n4 e4, .slice o4 m4 d4, .bool s7', .slice a7 n7 e7, .slice o7 m7 d7, .bool s9', .slice a9 n9 e9, .slice o9 m9 d9, .bool s12', .slice a12 n12 e12, .slice o12 m12 d12, .bool rq'.s, .slice rq'.ao rq'.n rq'.ca, .slice rq'.bo rq'.m rq'.cb, .bool s5, .slice a5 n5 c5, .slice o5 m5 d5] 25)
            have b15 : Below W5.heap.size W5 V15 := by rw [hV15]; exact Below.alloc hH12 (Below.size hH12) _
            have n15 : Hid (W5.heap.size ≤ l15) := by unfold Hid; rw [hl15]; exact Below.size hH12
            have g15 : Below V12.heap.size V12 V15 := by rw [hV15]; exact below_new V12 _
            replace F1 := Lib.hid (F1.out.below g15)
            replace F4 := Lib.hid (F4.out.below g15)
            replace F7 := Lib.hid (F7.out.below g15)
            replace F9 := Lib.hid (F9.out.below g15)
            replace F12 := Lib.hid (F12.out.below g15)
            clear g15
            try rw [← hV15]
            try rw [← hl15]
            try rw [← hV15]
            clear hV15 hl15
            try go_simp
            refine hK.out _ _ b15 (fun hH15 => ?_)
            clear hK K
            try simp only [Act.put, List.setIfInBounds_toArray, List.set_cons_zero, List.set_cons_succ]
            refine wpAnyL_pure (i := 16) (v := (.int .i64 7)) rfl (by kernel_rfl) (by kernel_rfl) (by kernel_rfl) (fun _ _ _ h => h) (Or.inl ⟨by kernel_rfl, ?_⟩) ?_
            · intro w1 hB
              go_simp
            change wpAnyL _ _ _ _ _ _ _ _ (Act.put _ (some 56) _) _
            try simp only [Act.put, List.setIfInBounds_toArray, List.set_cons_zero, List.set_cons_succ]
            refine wpAnyL_done (by kernel_rfl) ?_ _
            go_wp2_with fail
            go_meet
            exact ⟨l15, _, [⟨s1', a1, n1, e1, o1, m1, d1⟩, ⟨s4', a4, n4, e4, o4, m4, d4⟩, ⟨s7', a7, n7, e7, o7, m7, d7⟩, ⟨s9', a9, n9, e9, o9, m9, d9⟩, ⟨s12', a12, n12, e12, o12, m12, d12⟩, rq', ⟨s5, a5, n5, c5, o5, m5, d5⟩], rfl, rfl, rfl, k15.out, ⟨lit7 _ _ _ _ _ _ _, rfl⟩, seven F1.out F4.out F7.out F9.out F12.out (FQ5.out.below hH15) (FP5.out.below hH15), n15.out, hH15⟩
        · go_simp
          obtain ⟨V11, hV11⟩ : ∃ W, W = V1.alloc (.cells #[.bool s, .slice pa n c1, .slice pb m c2] 25) := ⟨_, rfl⟩
          obtain ⟨l11, hl11⟩ : ∃ g, g = V1.heap.size := ⟨_, rfl⟩
          have k11 : Hid (V11.heap[l11]? = some (.cells #[.bool s, .slice pa n c1, .slice pb m c2] 25 (0, 0))) := by unfold Hid; rw [hV11, hl11]; exact heap_alloc_new V1 (.cells #[.bool s, .slice pa n c1, .slice pb m c2] 25)
          have b11 : Below W5.heap.size W5 V11 := by rw [hV11]; exact Below.alloc hH1 (Below.size hH1) _
          have n11 : Hid (W5.heap.size ≤ l11) := by unfold Hid; rw [hl11]; exact Below.size hH1
          have g11 : Below V1.heap.size V1 V11 := by rw [hV11]; exact below_new V1 _
          replace F1 := Lib.hid (F1.out.below g11)
          clear g11
          try rw [← hV11]
          try rw [← hl11]
          try rw [← hV11]
          clear hV11 hl11
          try go_simp
          refine hK.out _ _ b11 (fun hH11 => ?_)
          clear hK K
          try simp only [Act.put, List.setIfInBounds_toArray, List.set_cons_zero, List.set_cons_succ]
          refine wpAnyL_ready (rs := [4]) (by kernel_rfl) (by simp) ?_
          refine AllReadyL.cons rfl (fun K hK => ?_) AllReadyL.nil
          go_simp
          refine (Add_q _ _ _ _ _ _ _ _ _ _ _ _ _ _ 12 _ _ _ (QA5.out.below hH11) (cq_zero 0 _ 12 (by omega) (by omega)).rq (by omega)).mono ?_
          rintro e V4 ⟨s4', a4, n4, e4, o4, m4, d4, rfl, cq4, g4⟩
          have b4 : Below W5.heap.size W5 V4 := keepB g4 hH11 (Nat.le_refl _)
          have F4 : Hid (FrS W3.heap.size V4 ⟨s4', a4, n4, e4, o4, m4, d4⟩) := CQ.frs (cq4.mono (Nat.le_trans HB5.out.size (Below.size hH11)))
          clear cq4
          replace F1 := Lib.hid (F1.out.below g4)
          replace k11 := Lib.hid (carry k11.out g4)
          clear g4
          try go_simp
          refine hK.out _ _ b4 (fun hH4 => ?_)
          clear hK K
          try simp only [Act.put, List.setIfInBounds_toArray, List.set_cons_zero, List.set_cons_succ]
          refine wpAnyL_ready (rs := [6]) (by kernel_rfl) (by simp) ?_
          refine AllReadyL.cons rfl (fun K hK => ?_) AllReadyL.nil
          go_simp
          refine (rOne_q _).mono ?_
          rintro e V6 ⟨s6', a6, n6, e6, o6, m6, d6, rfl, cq6, g6⟩
          have b6 : Below W5.heap.size W5 V6 := keepB g6 hH4 (Nat.le_refl _)
          replace cq6 := Lib.hid cq6
          replace F1 := Lib.hid (F1.out.below g6)
          replace k11 := Lib.hid (carry k11.out g6)
          replace F4 := Lib.hid (F4.out.below g6)
          clear g6
          try go_simp
          refine hK.out _ _ b6 (fun hH6 => ?_)
          clear hK K
          try simp only [Act.put, List.setIfInBounds_toArray, List.set_cons_zero, List.set_cons_succ]
          refine wpAnyL_ready (rs := [7]) (by kernel_rfl) (by simp) ?_
          refine AllReadyL.cons rfl (fun K hK => ?_) AllReadyL.nil
          go_simp
          refine (Mul_q _ _ _ _ _ _ _ _ _ _ _ _ _ _ 12 _ _ _ (QA5.out.below hH6) (CQ.upk cq6.out (k' := 12) (by omega) (by omega)).rq (by omega)).mono ?_
          rintro e V7 ⟨s7', a7, n7, e7, o7, m7, d7, rfl, cq7, g7⟩
          have b7 : Below W5.heap.size W5 V7 := keepB g7 hH6 (Nat.le_refl _)
          have F7 : Hid (FrS W3.heap.size V7 ⟨s7', a7, n7, e7, o7, m7, d7⟩) := CQ.frs (cq7.mono (Nat.le_trans HB5.out.size (Below.size hH6)))
          clear cq7
          clear cq6
          replace F1 := Lib.hid (F1.out.below g7)
          replace k11 := Lib.hid (carry k11.out g7)
          replace F4 := Lib.hid (F4.out.below g7)
          clear g7
          try go_simp
          refine hK.out _ _ b7 (fun hH7 => ?_)
          clear hK K
          try simp only [Act.put, List.setIfInBounds_toArray, List.set_cons_zero, List.set_cons_succ]
          refine wpAnyL_ready (rs := [9]) (by kernel_rfl) (by simp) ?_
          refine AllReadyL.cons rfl (fun K hK => ?_) AllReadyL.nil
          go_simp
          refine (Negate_q _ _ _ _ _ _ _ 12 _ _ (QA5.out.below hH7)).mono ?_
          rintro e V9 ⟨s9', a9, n9, e9, o9, m9, d9, rfl, cq9, g9⟩
          have b9 : Below W5.heap.size W5 V9 := keepB g9 hH7 (Nat.le_refl _)
          have F9 : Hid (FrS W3.heap.size V9 ⟨s9', a9, n9, e9, o9, m9, d9⟩) := CQ.frs (cq9.mono (Nat.le_trans HB5.out.size (Below.size hH7)))
          clear cq9
          replace F1 := Lib.hid (F1.out.below g9)
          replace k11 := Lib.hid (carry k11.out g9)
          replace F4 := Lib.hid (F4.out.below g9)
          replace F7 := Lib.hid (F7.out.below g9)
          clear g9
          try go_simp
          refine hK.out _ _ b9 (fun hH9 => ?_)
          clear hK K
          try simp only [Act.put, List.setIfInBounds_toArray, List.set_cons_zero, List.set_cons_succ]
          refine wpAnyL_ready (rs := [12]) (by kernel_rfl) (by simp) ?_
          refine AllReadyL.cons rfl (fun K hK => ?_) AllReadyL.nil
          go_simp
          have hra : RdR V9 (some ⟨l11, 0, none⟩) 1 [⟨s, pa, n, c1, pb, m, c2⟩] := lit_rdr k11.out
          refine (Sum_b (fun _ => p) (some ⟨l11, 0, none⟩) 1 [⟨s, pa, n, c1, pb, m, c2⟩] _ hra (by simp) (fun u hu => by obtain rfl : u = _ := (by simpa using hu); exact (QA5.out.below hH9))).mono ?_
          rintro e V12 ⟨s12', a12, n12, e12, o12, m12, d12, rfl, cq12, g12⟩
          have b12 : Below W5.heap.size W5 V12 := keepB g12 hH9 (Nat.le_refl _)
          have F12 : Hid (FrS W3.heap.size V12 ⟨s12', a12, n12, e12, o12, m12, d12⟩) := CQ.frs (cq12.mono (Nat.le_trans HB5.out.size (Below.size hH9)))
          clear cq12
          clear hra
          replace F1 := Lib.hid (F1.out.below g12)
          replace F4 := Lib.hid (F4.out.below g12)
          replace F7 := Lib.hid (F7.out.below g12)
          replace F9 := Lib.hid (F9.out.below g12)
          clear g12
          try go_simp
          refine hK.out _ _ b12 (fun hH12 => ?_)
          clear hK K
          try simp only [Act.put, List.setIfInBounds_toArray, List.set_cons_zero, List.set_cons_succ]
          refine wpAnyL_ready (rs := [15]) (by kernel_rfl) (by simp) ?_
          refine AllReadyL.cons rfl (fun K hK => ?_) AllReadyL.nil
          go_simp
          obtain ⟨V15, hV15⟩ : ∃ W, W = V12.alloc (.cells #[.bool s1', .slice a1 n1 e1, .slice o1 m1 d1, .bool s4', .slice a4 n4 e4, .slice o4 m4 d4, .bool s7', .slice a7 n7 e7, .slice o7 m7 d7, .bool s9', .slice a9 n9 e9, .slice o9 m9 d9, .bool s12', .slice a12 n12 e12, .slice o12 m12 d12, .bool rq'.s, .slice rq'.ao rq'.n rq'.ca, .slice rq'.bo rq'.m rq'.cb, .bool s5, .slice a5 n5 c5, .slice o5 m5 d5] 25) := ⟨_, rfl⟩
          obtain ⟨l15, hl15⟩ : ∃ g, g = V12.heap.size := ⟨_, rfl⟩
          have k15 : Hid (V15.heap[l15]? = some (.cells #[.bool s1', .slice a1 n1 e1, .slice o1 m1 d1, .bool s4', .slice a4 n4 e4, .slice o4 m4 d4, .bool s7', .slice a7 n7 e7, .slice o7 m7 d7, .bool s9', .slice a9 n9 e9, .slice o9 m9 d9, .bool s12', .slice a12 n12 e12, .slice o12 m12 d12, .bool rq'.s, .slice rq'.ao rq'.n rq'.ca, .slice rq'.bo rq'.m rq'.cb, .bool s5, .slice a5 n5 c5, .slice o5 m5 d5] 25 (0, 0))) := by unfold Hid; rw [hV15, hl15]; exact heap_alloc_new V12 (.cells #[.bool s1', .slice a1 n1 e1, .slice o1 m1 d1, .bool s4', .slice a4 n4 e4, .slice o4 m4 d4, .bool s7', .slice a7 n7 e7, .slice o7 m7 d7, .bool s9', .slice a9 n9 e9, .slice o9 m9 d9, .bool s12', .slice a12 n12 e12, .slice o12 m12 d12, .bool rq'.s, .slice rq'.ao rq'.n rq'.ca, .slice rq'.bo rq'.m rq'.cb, .bool s5, .slice a5 n5 c5, .slice o5 m5 d5] 25)
          have b15 : Below W5.heap.size W5 V15 := by rw [hV15]; exact Below.alloc hH12 (Below.size hH12) _
          have n15 : Hid (W5.heap.size ≤ l15) := by unfold Hid; rw [hl15]; exact Below.size hH12
          have g15 : Below V12.heap.size V12 V15 := by rw [hV15]; exact below_new V12 _
          replace F1 := Lib.hid (F1.out.below g15)
          replace F4 := Lib.hid (F4.out.below g15)
          replace F7 := Lib.hid (F7.out.below g15)
          replace F9 := Lib.hid (F9.out.below g15)
          replace F12 := Lib.hid (F12.out.below g15)
          clear g15
          try rw [← hV15]
          try rw [← hl15]
          try rw [← hV15]
          clear hV15 hl15
          try go_simp
          refine hK.out _ _ b15 (fun hH15 => ?_)
          clear hK K
          try simp only [Act.put, List.setIfInBounds_toArray, List.set_cons_zero, List.set_cons_succ]
          refine wpAnyL_pure (i := 16) (v := (.int .i64 7)) rfl (by kernel_rfl) (by kernel_rfl) (by kernel_rfl) (fun _ _ _ h => h) (Or.inl ⟨by kernel_rfl, ?_⟩) ?_
          · intro w1 hB
            go_simp
          change wpAnyL _ _ _ _ _ _ _ _ (Act.put _ (some 56) _) _
          try simp only [Act.put, List.setIfInBounds_toArray, List.set_cons_zero, List.set_cons_succ]
          refine wpAnyL_done (by kernel_rfl) ?_ _
          go_wp2_with fail
          go_meet
          exact ⟨l15, _, [⟨s1', a1, n1, e1, o1, m1, d1⟩, ⟨s4', a4, n4, e4, o4, m4, d4⟩, ⟨s7', a7, n7, e7, o7, m7, d7⟩, ⟨s9', a9, n9, e9, o9, m9, d9⟩, ⟨s12', a12, n12, e12, o12, m12, d12⟩, rq', ⟨s5, a5, n5, c5, o5, m5, d5⟩], rfl, rfl, rfl, k15.out, ⟨lit7 _ _ _ _ _ _ _, rfl⟩, seven F1.out F4.out F7.out F9.out F12.out (FQ5.out.below hH15) (FP5.out.below hH15), n15.out, hH15⟩
      · go_simp
        obtain ⟨V11, hV11⟩ : ∃ W, W = (W5.alloc (.cells #[.bool s, .slice pa n c1, .slice pb m c2] 25)).drew := ⟨_, rfl⟩
        obtain ⟨l11, hl11⟩ : ∃ g, g = W5.heap.size := ⟨_, rfl⟩
        have k11 : Hid (V11.heap[l11]? = some (.cells #[.bool s, .slice pa n c1, .slice pb m c2] 25 (0, 0))) := by unfold Hid; rw [hV11, hl11]; exact heap_alloc_new W5 (.cells #[.bool s, .slice pa n c1, .slice pb m c2] 25)
        have b11 : Below W5.heap.size W5 V11 := by rw [hV11]; exact (below_new W5 _).drew
        have n11 : Hid (W5.heap.size ≤ l11) := by unfold Hid; rw [hl11]; exact Nat.le_refl _
        try rw [← hV11]
        try rw [← hl11]
        try rw [← hV11]
        clear hV11 hl11
        try go_simp
        refine hK.out _ _ b11 (fun hH11 => ?_)
        clear hK K
        try simp only [Act.put, List.setIfInBounds_toArray, List.set_cons_zero, List.set_cons_succ]
        refine wpAnyL_ready (rs := [1]) (by kernel_rfl) (by simp) ?_
        refine AllReadyL.cons rfl (fun K hK => ?_) AllReadyL.nil
        go_simp
        refine (Normalize_q _ _ _ _ _ _ _ 12 _ _ (QA5.out.below hH11)).mono ?_
        rintro e V1 ⟨s1', a1, n1, e1, o1, m1, d1, rfl, cq1, g1⟩
        have b1 : Below W5.heap.size W5 V1 := keepB g1 hH11 (Nat.le_refl _)
        have F1 : Hid (FrS W3.heap.size V1 ⟨s1', a1, n1, e1, o1, m1, d1⟩) := CQ.frs (cq1.mono (Nat.le_trans HB5.out.size (Below.size hH11)))
        clear cq1
        replace k11 := Lib.hid (carry k11.out g1)
        clear g1
        try go_simp
        refine hK.out _ _ b1 (fun hH1 => ?_)
        clear hK K
        try simp only [Act.put, List.setIfInBounds_toArray, List.set_cons_zero, List.set_cons_succ]
        refine wpAnyL_ready (rs := [4]) (by kernel_rfl) (by simp) ?_
        refine AllReadyL.cons rfl (fun K hK => ?_) AllReadyL.nil
        go_simp
        refine (Add_q _ _ _ _ _ _ _ _ _ _ _ _ _ _ 12 _ _ _ (QA5.out.below hH1) (cq_zero 0 _ 12 (by omega) (by omega)).rq (by omega)).mono ?_
        rintro e V4 ⟨s4', a4, n4, e4, o4, m4, d4, rfl, cq4, g4⟩
        have b4 : Below W5.heap.size W5 V4 := keepB g4 hH1 (Nat.le_refl _)
        have F4 : Hid (FrS W3.heap.size V4 ⟨s4', a4, n4, e4, o4, m4, d4⟩) := CQ.frs (cq4.mono (Nat.le_trans HB5.out.size (Below.size hH1)))
        clear cq4
        replace k11 := Lib.hid (carry k11.out g4)
        replace F1 := Lib.hid (F1.out.below g4)
        clear g4
        try go_simp
        refine hK.out _ _ b4 (fun hH4 => ?_)
        clear hK K
        try simp only [Act.put, List.setIfInBounds_toArray, List.set_cons_zero, List.set_cons_succ]
        refine wpAnyL_ready (rs := [6]) (by kernel_rfl) (by simp) ?_
        refine AllReadyL.cons rfl (fun K hK => ?_) AllReadyL.nil
        go_simp
        refine (rOne_q _).mono ?_
        rintro e V6 ⟨s6', a6, n6, e6, o6, m6, d6, rfl, cq6, g6⟩
        have b6 : Below W5.heap.size W5 V6 := keepB g6 hH4 (Nat.le_refl _)
        replace cq6 := Lib.hid cq6
        replace k11 := Lib.hid (carry k11.out g6)
        replace F1 := Lib.hid (F1.out.below g6)
        replace F4 := Lib.hid (F4.out.below g6)
        clear g6
        try go_simp
        refine hK.out _ _ b6 (fun hH6 => ?_)
        clear hK K
        try simp only [Act.put, List.setIfInBounds_toArray, List.set_cons_zero, List.set_cons_succ]
        refine wpAnyL_ready (rs := [7]) (by kernel_rfl) (by simp) ?_
        refine AllReadyL.cons rfl (fun K hK => ?_) AllReadyL.nil
        go_simp
        refine (Mul_q _ _ _ _ _ _ _ _ _ _ _ _ _ _ 12 _ _ _ (QA5.out.below hH6) (CQ.upk cq6.out (k' := 12) (by omega) (by omega)).rq (by omega)).mono ?_
        rintro e V7 ⟨s7', a7, n7, e7, o7, m7, d7, rfl, cq7, g7⟩
        have b7 : Below W5.heap.size W5 V7 := keepB g7 hH6 (Nat.le_refl _)
        have F7 : Hid (FrS W3.heap.size V7 ⟨s7', a7, n7, e7, o7, m7, d7⟩) := CQ.frs (cq7.mono (Nat.le_trans HB5.out.size (Below.size hH6)))
        clear cq7
        clear cq6
        replace k11 := Lib.hid (carry k11.out g7)
        replace F1 := Lib.hid (F1.out.below g7)
        replace F4 := Lib.hid (F4.out.below g7)
        clear g7
        try go_simp
        refine hK.out _ _ b7 (fun hH7 => ?_)
        clear hK K
        try simp only [Act.put, List.setIfInBounds_toArray, List.set_cons_zero, List.set_cons_succ]
        refine wpAnyL_ready (rs := [9]) (by kernel_rfl) (by simp) ?_
        refine AllReadyL.cons rfl (fun K hK => ?_) AllReadyL.nil
        go_simp
        refine (Negate_q _ _ _ _ _ _ _ 12 _ _ (QA5.out.below hH7)).mono ?_
        rintro e V9 ⟨s9', a9, n9, e9, o9, m9, d9, rfl, cq9, g9⟩
        have b9 : Below W5.heap.size W5 V9 := keepB g9 hH7 (Nat.le_refl _)
        have F9 : Hid (FrS W3.heap.size V9 ⟨s9', a9, n9, e9, o9, m9, d9⟩) := CQ.frs (cq9.mono (Nat.le_trans HB5.out.size (Below.size hH7)))
        clear cq9
        replace k11 := Lib.hid (carry k11.out g9)
        replace F1 := Lib.hid (F1.out.below g9)
        replace F4 := Lib.hid (F4.out.below g9)
        replace F7 := Lib.hid (F7.out.below g9)
        clear g9
        try go_simp
        refine hK.out _ _ b9 (fun hH9 => ?_)
        clear hK K
        try simp only [Act.put, List.setIfInBounds_toArray, List.set_cons_zero, List.set_cons_succ]
        refine wpAnyL_ready (rs := [12]) (by kernel_rfl) (by simp) ?_
        refine AllReadyL.cons rfl (fun K hK => ?_) AllReadyL.nil
        go_simp
        have hra : RdR V9 (some ⟨l11, 0, none⟩) 1 [⟨s, pa, n, c1, pb, m, c2⟩] := lit_rdr k11.out
        refine (Sum_b (fun _ => p) (some ⟨l11, 0, none⟩) 1 [⟨s, pa, n, c1, pb, m, c2⟩] _ hra (by simp) (fun u hu => by obtain rfl : u = _ := (by simpa using hu); exact (QA5.out.below hH9))).mono ?_
        rintro e V12 ⟨s12', a12, n12, e12, o12, m12, d12, rfl, cq12, g12⟩
        have b12 : Below W5.heap.size W5 V12 := keepB g12 hH9 (Nat.le_refl _)
        have F12 : Hid (FrS W3.heap.size V12 ⟨s12', a12, n12, e12, o12, m12, d12⟩) := CQ.frs (cq12.mono (Nat.le_trans HB5.out.size (Below.size hH9)))
        clear cq12
        clear hra
        replace F1 := Lib.hid (F1.out.below g12)
        replace F4 := Lib.hid (F4.out.below g12)
        replace F7 := Lib.hid (F7.out.below g12)
        replace F9 := Lib.hid (F9.out.below g12)
        clear g12
        try go_simp
        refine hK.out _ _ b12 (fun hH12 => ?_)
        clear hK K
        try simp only [Act.put, List.setIfInBounds_toArray, List.set_cons_zero, List.set_cons_succ]
        refine wpAnyL_ready (rs := [15]) (by kernel_rfl) (by simp) ?_
        refine AllReadyL.cons rfl (fun K hK => ?_) AllReadyL.nil
        go_simp
        obtain ⟨V15, hV15⟩ : ∃ W, W = V12.alloc (.cells #[.bool s1', .slice a1 n1 e1, .slice o1 m1 d1, .bool s4', .slice a4 n4 e4, .slice o4 m4 d4, .bool s7', .slice a7 n7 e7, .slice o7 m7 d7, .bool s9', .slice a9 n9 e9, .slice o9 m9 d9, .bool s12', .slice a12 n12 e12, .slice o12 m12 d12, .bool rq'.s, .slice rq'.ao rq'.n rq'.ca, .slice rq'.bo rq'.m rq'.cb, .bool s5, .slice a5 n5 c5, .slice o5 m5 d5] 25) := ⟨_, rfl⟩
        obtain ⟨l15, hl15⟩ : ∃ g, g = V12.heap.size := ⟨_, rfl⟩
        have k15 : Hid (V15.heap[l15]? = some (.cells #[.bool s1', .slice a1 n1 e1, .slice o1 m1 d1, .bool s4', .slice a4 n4 e4, .slice o4 m4 d4, .bool s7', .slice a7 n7 e7, .slice o7 m7 d7, .bool s9', .slice a9 n9 e9, .slice o9 m9 d9, .bool s12', .slice a12 n12 e12, .slice o12 m12 d12, .bool rq'.s, .slice rq'.ao rq'.n rq'.ca, .slice rq'.bo rq'.m rq'.cb, .bool s5, .slice a5 n5 c5, .slice o5 m5 d5] 25 (0, 0))) := by unfold Hid; rw [hV15, hl15]; exact heap_alloc_new V12 (.cells #[.bool s1', .slice a1 n1 e1, .slice o1 m1 d1, .bool s4', .slice a4 n4 e4, .slice o4 m4 d4, .bool s7', .slice a7 n7 e7, .slice o7 m7 d7, .bool s9', .slice a9 n9 e9, .slice o9 m9 d9, .bool s12', .slice a12 n12 e12, .slice o12 m12 d12, .bool rq'.s, .slice rq'.ao rq'.n rq'.ca, .slice rq'.bo rq'.m rq'.cb, .bool s5, .slice a5 n5 c5, .slice o5 m5 d5] 25)
        have b15 : Below W5.heap.size W5 V15 := by rw [hV15]; exact Below.alloc hH12 (Below.size hH12) _
        have n15 : Hid (W5.heap.size ≤ l15) := by unfold Hid; rw [hl15]; exact Below.size hH12
        have g15 : Below V12.heap.size V12 V15 := by rw [hV15]; exact below_new V12 _
        replace F1 := Lib.hid (F1.out.below g15)
        replace F4 := Lib.hid (F4.out.below g15)
        replace F7 := Lib.hid (F7.out.below g15)
        replace F9 := Lib.hid (F9.out.below g15)
        replace F12 := Lib.hid (F12.out.below g15)
        clear g15
        try rw [← hV15]
        try rw [← hl15]
        try rw [← hV15]
        clear hV15 hl15
        try go_simp
        refine hK.out _ _ b15 (fun hH15 => ?_)
        clear hK K
        try simp only [Act.put, List.setIfInBounds_toArray, List.set_cons_zero, List.set_cons_succ]
        refine wpAnyL_pure (i := 16) (v := (.int .i64 7)) rfl (by kernel_rfl) (by kernel_rfl) (by kernel_rfl) (fun _ _ _ h => h) (Or.inl ⟨by kernel_rfl, ?_⟩) ?_
        · intro w1 hB
          go_simp
        change wpAnyL _ _ _ _ _ _ _ _ (Act.put _ (some 56) _) _
        try simp only [Act.put, List.setIfInBounds_toArray, List.set_cons_zero, List.set_cons_succ]
        refine wpAnyL_done (by kernel_rfl) ?_ _
        go_wp2_with fail
        go_meet
        exact ⟨l15, _, [⟨s1', a1, n1, e1, o1, m1, d1⟩, ⟨s4', a4, n4, e4, o4, m4, d4⟩, ⟨s7', a7, n7, e7, o7, m7, d7⟩, ⟨s9', a9, n9, e9, o9, m9, d9⟩, ⟨s12', a12, n12, e12, o12, m12, d12⟩, rq', ⟨s5, a5, n5, c5, o5, m5, d5⟩], rfl, rfl, rfl, k15.out, ⟨lit7 _ _ _ _ _ _ _, rfl⟩, seven F1.out F4.out F7.out F9.out F12.out (FQ5.out.below hH15) (FP5.out.below hH15), n15.out, hH15⟩
    case rest =>
    obtain ⟨gl, cur, rs, rfl, rfl, rfl, hlit, hlc, hfr, hgl, hb6⟩ := hcut
    rename World => W6
    have HL6 : Hid (W6.heap[gl]? = some (.cells cur 25 (0, 0))) := hlit.out
    have HF6 : Hid (∀ r ∈ rs, FrS W3.heap.size W6 r) := hfr.out
    have HB6 : Hid (Below W3.heap.size W3 W6) := HB5.out.trans (hb6.out.mono HB5.out.size)
    have HLC : Hid (LitC cur rs) := hlc.out.1
    have HL7 : Hid (rs.length = 7) := hlc.out.2
    clear hlit hfr hb6 hlc hgl XQ5 FP5 FQ5 HB5 XA5 QA5 XP5
    go_wp2_with fail
    go_loopw [57] (fun s57 wr => ∃ j : Nat, j ≤ 7 ∧ s57 = .int .i64 (j : Int) ∧ Hid (wr.heap[gl]? = some (.cells cur 25 (0, 0))) ∧ Hid (∀ r ∈ rs, FrS W3.heap.size wr r) ∧ Hid (Below W3.heap.size W3 wr)) (fun s57 _ => 7 - (intOf s57).toNat)
    case atStart => exact ⟨0, by omega, rfl, HL6.out, HF6.out, HB6.out⟩
    case round =>
      obtain ⟨j, hj7, rfl, hL, hF, hB⟩ := hrel
      by_cases hlt : j < 7
      · have hlt2 : (j : Int) < 7 := by omega
        obtain ⟨l0, l1, l2⟩ := HLC.out j (by have := HL7.out; omega)
        obtain ⟨rv, hrv⟩ : ∃ r, r = rs.getD j RV.nil := ⟨_, rfl⟩
        rw [← hrv] at l0 l1 l2
        have fv : FrS W3.heap.size wr rv := by
          rw [hrv]
          have hjl : j < rs.length := by have := HL7.out; omega
          have e : rs.getD j RV.nil = rs[j] := by simp [List.getD, hjl]
          rw [e]
          exact hF.out _ (List.getElem_mem hjl)
        obtain ⟨sv, av, nv, cv, bv, mv, dv⟩ := rv
        have c0 : wr.cell? ⟨gl, j * 3, none⟩ = some (.bool sv) := by simp [World.cell?, hL.out, l0]
        have c1' : wr.cell? ⟨gl, j * 3 + 1, none⟩ = some (.slice av nv cv) := by simp [World.cell?, hL.out, l1]
        have c2' : wr.cell? ⟨gl, j * 3 + 2, none⟩ = some (.slice bv mv dv) := by simp [World.cell?, hL.out, l2]
        obtain ⟨W, hW⟩ : ∃ W, W = wr.alloc (.cells #[.bool sv, .slice av nv cv, .slice bv mv dv] 25) := ⟨_, rfl⟩
        obtain ⟨gr, hgr⟩ : ∃ g, g = wr.heap.size := ⟨_, rfl⟩
        have bW : Below wr.heap.size wr W := by rw [hW]; exact below_new wr _
        have XR : Hid (W.heap[gr]? = some (.cells #[.bool sv, .slice av nv cv, .slice bv mv dv] 25 (0, 0))) := by unfold Hid; rw [hW, hgr]; exact heap_alloc_new _ _
        have LW : Hid (W.heap[gl]? = some (.cells cur 25 (0, 0))) := carry hL.out bW
        have FW : Hid (∀ r ∈ rs, FrS W3.heap.size W r) := fun r hr => (hF.out r hr).below bW
        have FV : Hid (FrS W3.heap.size W ⟨sv, av, nv, cv, bv, mv, dv⟩) := fv.below bW
        have BW : Hid (Below W3.heap.size W3 W) := hB.out.trans (bW.mono hB.out.size)
        have HWW := Lib.hid hW
        have HGR := Lib.hid hgr
        clear l0 l1 l2 hrv fv bW hW hgr hL hF hB
        go_upto_region 8 with fail
        rw [← HWW.out]
        try rw [← HGR.out]
        clear HWW HGR c0 c1' c2'
        obtain ⟨q0, q1, q2, -, -, -⟩ := at_block XR.out
        go_wp2_with fail
        go_loopw [64] (fun s64 wr => ∃ i : Nat, i ≤ nv ∧ s64 = .int .i64 (i : Int) ∧ Hid (wr.heap[gl]? = some (.cells cur 25 (0, 0))) ∧ Hid (∀ r ∈ rs, FrS W3.heap.size wr r) ∧ Hid (wr.heap[gr]? = some (.cells #[.bool sv, .slice av nv cv, .slice bv mv dv] 25 (0, 0))) ∧ Hid (FrS W3.heap.size wr ⟨sv, av, nv, cv, bv, mv, dv⟩) ∧ Hid (Below W3.heap.size W3 wr)) (fun s64 _ => nv - (intOf s64).toNat)
        case atStart => exact ⟨0, by omega, rfl, LW.out, FW.out, XR.out, FV.out, BW.out⟩
        case round =>
          obtain ⟨i, hin, rfl, hL, hF, hR, hV, hB⟩ := hrel
          by_cases hil : i < nv
          · have hilI : (i : Int) < (nv : Int) := by omega
            have hnb : nv ≤ 9223372036854775807 := hV.out.1.1
            rcases hV.out.1.2 with h0 | ⟨b, e, hbB, cu, hc, hl⟩
            · exact absurd h0 (show nv ≠ 0 by omega)
            change av = _ at e
            change nv ≤ _ at hl
            subst e
            have hcell : ∃ v, wr.cell? ⟨b, i, none⟩ = some v := ⟨cu[i], by simp [World.cell?, hc, show i < cu.size by omega]⟩
            obtain ⟨v0, hv0⟩ := hcell
            have hfz : wr.frozen? ⟨b, i, none⟩ = false := by simp [World.frozen?, hc]
            have L1 : Hid ((wr.setCell ⟨b, i, none⟩ (.int .u32 9)).heap[gl]? = some (.cells cur 25 (0, 0))) := set_off_u32 hL.out hc _ _
            have R1 : Hid ((wr.setCell ⟨b, i, none⟩ (.int .u32 9)).heap[gr]? = some (.cells #[.bool sv, .slice (some ⟨b, 0, none⟩) nv cv, .slice bv mv dv] 25 (0, 0))) := set_off_u32 hR.out hc _ _
            have F1 : Hid (∀ r ∈ rs, FrS W3.heap.size (wr.setCell ⟨b, i, none⟩ (.int .u32 9)) r) := fun r hr => (hF.out r hr).set b i _
            have V1 : Hid (FrS W3.heap.size (wr.setCell ⟨b, i, none⟩ (.int .u32 9)) ⟨sv, some ⟨b, 0, none⟩, nv, cv, bv, mv, dv⟩) := hV.out.set b i _
            have B1 : Hid (Below W3.heap.size W3 (wr.setCell ⟨b, i, none⟩ (.int .u32 9))) := Below.setCell (p := ⟨b, i, none⟩) hB.out hbB _
            obtain ⟨q0, q1, q2, -, -, -⟩ := at_block hR.out
            clear hL hF hR hV hB hc hl hbB
            go_wp2_with fail
            go_roundw
            case rel => exact ⟨i + 1, by omega, by simp, L1.out, F1.out, R1.out, V1.out, B1.out⟩
            case measure => simp [intOf]; omega
          · obtain rfl : i = nv := by omega
            obtain ⟨q0, q1, q2, -, -, -⟩ := at_block hR.out
            go_wp2_with fail
            have L0 := hL
            have F0 := hF
            have R0 := hR
            have V0 := hV
            have B0' := hB
            go_loopw [75] (fun s75 wr => ∃ z : Nat, z ≤ mv ∧ s75 = .int .i64 (z : Int) ∧ Hid (wr.heap[gl]? = some (.cells cur 25 (0, 0))) ∧ Hid (∀ r ∈ rs, FrS W3.heap.size wr r) ∧ Hid (wr.heap[gr]? = some (.cells #[.bool sv, .slice av i cv, .slice bv mv dv] 25 (0, 0))) ∧ Hid (FrS W3.heap.size wr ⟨sv, av, i, cv, bv, mv, dv⟩) ∧ Hid (Below W3.heap.size W3 wr)) (fun s75 _ => mv - (intOf s75).toNat)
            case atStart => exact ⟨0, by omega, rfl, L0.out, F0.out, R0.out, V0.out, B0'.out⟩
            case round =>
              obtain ⟨z, hzn, rfl, hL, hF, hR, hV, hB⟩ := hrel
              by_cases hzl : z < mv
              · have hzlI : (z : Int) < (mv : Int) := by omega
                have hnb : mv ≤ 9223372036854775807 := hV.out.2.1
                rcases hV.out.2.2 with h0 | ⟨b, e, hbB, cu, hc, hl⟩
                · exact absurd h0 (show mv ≠ 0 by omega)
                change bv = _ at e
                change mv ≤ _ at hl
                subst e
                have hcell : ∃ v, wr.cell? ⟨b, z, none⟩ = some v := ⟨cu[z], by simp [World.cell?, hc, show z < cu.size by omega]⟩
                obtain ⟨v0, hv0⟩ := hcell
                have hfz : wr.frozen? ⟨b, z, none⟩ = false := by simp [World.frozen?, hc]
                have L1 : Hid ((wr.setCell ⟨b, z, none⟩ (.int .u32 9)).heap[gl]? = some (.cells cur 25 (0, 0))) := set_off_u32 hL.out hc _ _
                have R1 : Hid ((wr.setCell ⟨b, z, none⟩ (.int .u32 9)).heap[gr]? = some (.cells #[.bool sv, .slice av i cv, .slice (some ⟨b, 0, none⟩) mv dv] 25 (0, 0))) := set_off_u32 hR.out hc _ _
                have F1 : Hid (∀ r ∈ rs, FrS W3.heap.size (wr.setCell ⟨b, z, none⟩ (.int .u32 9)) r) := fun r hr => (hF.out r hr).set b z _
                have V1 : Hid (FrS W3.heap.size (wr.setCell ⟨b, z, none⟩ (.int .u32 9)) ⟨sv, av, i, cv, some ⟨b, 0, none⟩, mv, dv⟩) := hV.out.set b z _
                have B1 : Hid (Below W3.heap.size W3 (wr.setCell ⟨b, z, none⟩ (.int .u32 9))) := Below.setCell (p := ⟨b, z, none⟩) hB.out hbB _
                obtain ⟨q0, q1, q2, -, -, -⟩ := at_block hR.out
                clear hL hF hR hV hB hc hl hbB L0 F0 R0 V0 B0'
                go_wp2_with fail
                go_roundw
                case rel => exact ⟨z + 1, by omega, by simp, L1.out, F1.out, R1.out, V1.out, B1.out⟩
                case measure => simp [intOf]; omega
              · obtain rfl : z = mv := by omega
                go_wp2_with fail
                go_roundw
                case rel => exact ⟨j + 1, by omega, by simp, hL.out, hF.out, hB.out⟩
                case measure => simp [intOf]; omega
      · obtain rfl : j = 7 := by omega
        obtain ⟨W7, hW7⟩ : ∃ W, W = wr := ⟨_, rfl⟩
        rw [← hW7] at hB ⊢
        clear hW7 hL hF
        have hb27 : Below W2.heap.size W2 W7 := HB3.out.trans (hB.out.mono HB3.out.size)
        have HB7 : Hid (Below w.heap.size w W7) := HB2.out.trans (hb27.mono HB2.out.size)
        have ZA : Hid (W7.heap[ga]? = some (.cells #[.bool s, .slice pa n c1, .slice pb m c2] 25 (0, 0))) := carry XA.out hB.out
        have ZX : Hid (W7.heap[w.heap.size]? = some (.cells #[.bool s, .slice ao n ca, .slice bo m cb] 25 (0, 0))) := carry X2.out hb27
        have ZY : Hid (W7.heap[w.heap.size + 1]? = some (.cells #[.bool t, .slice po us'.length cl, .slice qo vs'.length cj] 25 (0, 0))) := carry Y2.out hb27
        have ZR : Hid (Rd W7 pa c1 us ∧ Rd W7 pb c2 vs) := ⟨RA.out.1.below hB.out, RA.out.2.below hB.out⟩
        have ZRX : Hid (Rd W7 ao ca us ∧ Rd W7 bo cb vs) := ⟨HRX.out.1.below hb27, HRX.out.2.below hb27⟩
        have ZQA : Hid (RQ W7 s pa n c1 pb m c2 p 12) := QA.out.below hB.out
        have ZQY := Lib.hid (HR2.out.below hb27)
        have ZQX : Hid (RQ W7 s ao n ca bo m cb p 12) := by
          have := cut_rq (s := s) ZRX.out.1 ZRX.out.2 (List.take_of_length_le HLN.out.1).symm (List.take_of_length_le HLN.out.2).symm
          rw [← HN.out, ← HM.out, ← HP.out] at this
          exact this
        clear hb27 hB
        go_wp2_with fail
        refine wp_region_held_drew (S := fun w' => Below W7.heap.size W7 w') (by kernel_rfl) ((Below.refl _ _).drew) (fun hH => ?_)
        refine wpAnyH_take (i := 0) (v := (.agg #[.bool s, .slice pa n c1, .slice pb m c2])) rfl (by kernel_rfl) (by kernel_rfl) (by kernel_rfl) (fun _ _ _ h => h) (Or.inl ⟨by kernel_rfl, ?_⟩) hH ?_
        · intro w1 hB
          obtain ⟨p0, p1, p2, -, -, -⟩ := at_block (carry ZA.out hB)
          obtain ⟨q0, q1, q2, -, -, -⟩ := at_block (carry ZX.out hB)
          obtain ⟨t0, t1, t2, -, -, -⟩ := at_block (carry ZY.out hB)
          go_simp
        change wpAnyH _ _ _ _ _ _ _ (Act.put _ (some 84) _) _
        try simp only [Act.put, List.setIfInBounds_toArray, List.set_cons_zero, List.set_cons_succ]
        refine wpAnyH_take (i := 1) (v := (.pointer (some ⟨w.heap.size, 0, none⟩))) rfl (by kernel_rfl) (by kernel_rfl) (by kernel_rfl) (fun _ _ _ h => h) (Or.inl ⟨by kernel_rfl, ?_⟩) hH ?_
        · intro w1 hB
          go_simp
        change wpAnyH _ _ _ _ _ _ _ (Act.put _ (some 85) _) _
        try simp only [Act.put, List.setIfInBounds_toArray, List.set_cons_zero, List.set_cons_succ]
        refine wpAnyH_take (i := 2) (v := (.bool s)) rfl (by kernel_rfl) (by kernel_rfl) (by kernel_rfl) (fun _ _ _ h => h) (Or.inl ⟨by kernel_rfl, ?_⟩) hH ?_
        · intro w1 hB
          obtain ⟨p0, p1, p2, -, -, -⟩ := at_block (carry ZA.out hB)
          obtain ⟨q0, q1, q2, -, -, -⟩ := at_block (carry ZX.out hB)
          obtain ⟨t0, t1, t2, -, -, -⟩ := at_block (carry ZY.out hB)
          go_simp
        change wpAnyH _ _ _ _ _ _ _ (Act.put _ (some 86) _) _
        try simp only [Act.put, List.setIfInBounds_toArray, List.set_cons_zero, List.set_cons_succ]
        refine wpAnyH_take (i := 3) (v := (.pointer (some ⟨w.heap.size, 1, none⟩))) rfl (by kernel_rfl) (by kernel_rfl) (by kernel_rfl) (fun _ _ _ h => h) (Or.inl ⟨by kernel_rfl, ?_⟩) hH ?_
        · intro w1 hB
          go_simp
        change wpAnyH _ _ _ _ _ _ _ (Act.put _ (some 87) _) _
        try simp only [Act.put, List.setIfInBounds_toArray, List.set_cons_zero, List.set_cons_succ]
        refine wpAnyH_take (i := 4) (v := (.slice ao n ca)) rfl (by kernel_rfl) (by kernel_rfl) (by kernel_rfl) (fun _ _ _ h => h) (Or.inl ⟨by kernel_rfl, ?_⟩) hH ?_
        · intro w1 hB
          obtain ⟨p0, p1, p2, -, -, -⟩ := at_block (carry ZA.out hB)
          obtain ⟨q0, q1, q2, -, -, -⟩ := at_block (carry ZX.out hB)
          obtain ⟨t0, t1, t2, -, -, -⟩ := at_block (carry ZY.out hB)
          go_simp
        change wpAnyH _ _ _ _ _ _ _ (Act.put _ (some 88) _) _
        try simp only [Act.put, List.setIfInBounds_toArray, List.set_cons_zero, List.set_cons_succ]
        refine wpAnyH_take (i := 5) (v := (.pointer (some ⟨w.heap.size, 2, none⟩))) rfl (by kernel_rfl) (by kernel_rfl) (by kernel_rfl) (fun _ _ _ h => h) (Or.inl ⟨by kernel_rfl, ?_⟩) hH ?_
        · intro w1 hB
          go_simp
        change wpAnyH _ _ _ _ _ _ _ (Act.put _ (some 89) _) _
        try simp only [Act.put, List.setIfInBounds_toArray, List.set_cons_zero, List.set_cons_succ]
        refine wpAnyH_take (i := 6) (v := (.slice bo m cb)) rfl (by kernel_rfl) (by kernel_rfl) (by kernel_rfl) (fun _ _ _ h => h) (Or.inl ⟨by kernel_rfl, ?_⟩) hH ?_
        · intro w1 hB
          obtain ⟨p0, p1, p2, -, -, -⟩ := at_block (carry ZA.out hB)
          obtain ⟨q0, q1, q2, -, -, -⟩ := at_block (carry ZX.out hB)
          obtain ⟨t0, t1, t2, -, -, -⟩ := at_block (carry ZY.out hB)
          go_simp
        change wpAnyH _ _ _ _ _ _ _ (Act.put _ (some 90) _) _
        try simp only [Act.put, List.setIfInBounds_toArray, List.set_cons_zero, List.set_cons_succ]
        refine wpAnyH_take (i := 7) (v := (.agg #[.bool s, .slice ao n ca, .slice bo m cb])) rfl (by kernel_rfl) (by kernel_rfl) (by kernel_rfl) (fun _ _ _ h => h) (Or.inl ⟨by kernel_rfl, ?_⟩) hH ?_
        · intro w1 hB
          go_simp
        change wpAnyH _ _ _ _ _ _ _ (Act.put _ (some 91) _) _
        try simp only [Act.put, List.setIfInBounds_toArray, List.set_cons_zero, List.set_cons_succ]
        refine wpAnyH_ready (rs := [8]) (by kernel_rfl) (by simp) ?_
        refine AllReadyH.cons rfl (fun K hK => ?_) AllReadyH.nil
        go_simp
        refine (Same_rd s pa pb ao bo c1 c2 ca cb us vs n m n m _ (ZR.out.1.below hH) (ZRX.out.1.below hH) (ZR.out.2.below hH) (ZRX.out.2.below hH) HN.out HN.out HM.out HM.out).mono ?_
        rintro e V8 ⟨rfl, v8⟩
        try go_simp
        refine hK.out _ _ (keepB v8 hH (Nat.le_refl _)) (fun hH8 => ?_)
        clear hK K
        try simp only [Act.put, List.setIfInBounds_toArray, List.set_cons_zero, List.set_cons_succ]
        refine wpAnyH_take (i := 9) (v := (.bool true)) rfl (by kernel_rfl) (by kernel_rfl) (by kernel_rfl) (fun _ _ _ h => h) (Or.inl ⟨by kernel_rfl, ?_⟩) hH8 ?_
        · intro w1 hB
          go_simp
        change wpAnyH _ _ _ _ _ _ _ (Act.put _ (some 93) _) _
        try simp only [Act.put, List.setIfInBounds_toArray, List.set_cons_zero, List.set_cons_succ]
        refine wpAnyH_take (i := 10) (v := (.agg #[.bool s, .slice pa n c1, .slice pb m c2])) rfl (by kernel_rfl) (by kernel_rfl) (by kernel_rfl) (fun _ _ _ h => h) (Or.inl ⟨by kernel_rfl, ?_⟩) hH8 ?_
        · intro w1 hB
          obtain ⟨p0, p1, p2, -, -, -⟩ := at_block (carry ZA.out hB)
          obtain ⟨q0, q1, q2, -, -, -⟩ := at_block (carry ZX.out hB)
          obtain ⟨t0, t1, t2, -, -, -⟩ := at_block (carry ZY.out hB)
          go_simp
        change wpAnyH _ _ _ _ _ _ _ (Act.put _ (some 94) _) _
        try simp only [Act.put, List.setIfInBounds_toArray, List.set_cons_zero, List.set_cons_succ]
        refine wpAnyH_take (i := 11) (v := (.agg #[.bool t, .slice po us'.length cl, .slice qo vs'.length cj])) rfl (by kernel_rfl) (by kernel_rfl) (by kernel_rfl) (fun _ _ _ h => h) (Or.inl ⟨by kernel_rfl, ?_⟩) hH8 ?_
        · intro w1 hB
          obtain ⟨p0, p1, p2, -, -, -⟩ := at_block (carry ZA.out hB)
          obtain ⟨q0, q1, q2, -, -, -⟩ := at_block (carry ZX.out hB)
          obtain ⟨t0, t1, t2, -, -, -⟩ := at_block (carry ZY.out hB)
          go_simp
        change wpAnyH _ _ _ _ _ _ _ (Act.put _ (some 95) _) _
        try simp only [Act.put, List.setIfInBounds_toArray, List.set_cons_zero, List.set_cons_succ]
        refine wpAnyH_take (i := 13) (v := (.agg #[.bool s, .slice ao n ca, .slice bo m cb])) rfl (by kernel_rfl) (by kernel_rfl) (by kernel_rfl) (fun _ _ _ h => h) (Or.inl ⟨by kernel_rfl, ?_⟩) hH8 ?_
        · intro w1 hB
          obtain ⟨p0, p1, p2, -, -, -⟩ := at_block (carry ZA.out hB)
          obtain ⟨q0, q1, q2, -, -, -⟩ := at_block (carry ZX.out hB)
          obtain ⟨t0, t1, t2, -, -, -⟩ := at_block (carry ZY.out hB)
          go_simp
        change wpAnyH _ _ _ _ _ _ _ (Act.put _ (some 97) _) _
        try simp only [Act.put, List.setIfInBounds_toArray, List.set_cons_zero, List.set_cons_succ]
        refine wpAnyH_take (i := 14) (v := (.agg #[.bool t, .slice po us'.length cl, .slice qo vs'.length cj])) rfl (by kernel_rfl) (by kernel_rfl) (by kernel_rfl) (fun _ _ _ h => h) (Or.inl ⟨by kernel_rfl, ?_⟩) hH8 ?_
        · intro w1 hB
          obtain ⟨p0, p1, p2, -, -, -⟩ := at_block (carry ZA.out hB)
          obtain ⟨q0, q1, q2, -, -, -⟩ := at_block (carry ZX.out hB)
          obtain ⟨t0, t1, t2, -, -, -⟩ := at_block (carry ZY.out hB)
          go_simp
        change wpAnyH _ _ _ _ _ _ _ (Act.put _ (some 98) _) _
        try simp only [Act.put, List.setIfInBounds_toArray, List.set_cons_zero, List.set_cons_succ]
        refine wpAnyH_ready (rs := [12]) (by kernel_rfl) (by simp) ?_
        refine AllReadyH.cons rfl (fun K hK => ?_) AllReadyH.nil
        go_simp
        refine (Add_q _ _ _ _ _ _ _ _ _ _ _ _ _ _ 12 _ _ _ (ZQA.out.below hH8) (ZQY.out.below hH8) (by omega)).mono ?_
        rintro e V12 ⟨sA, aA, nA, eA, oA, mA, dA, rfl, cqA, v12⟩
        replace cqA := Lib.hid cqA
        try go_simp
        refine hK.out _ _ (keepB v12 hH8 (Nat.le_refl _)) (fun hH12 => ?_)
        clear hK K
        try simp only [Act.put, List.setIfInBounds_toArray, List.set_cons_zero, List.set_cons_succ]
        refine wpAnyH_ready (rs := [15]) (by kernel_rfl) (by simp) ?_
        refine AllReadyH.cons rfl (fun K hK => ?_) AllReadyH.nil
        go_simp
        refine (rAdd_q _ _ _ _ _ _ _ _ _ _ _ _ _ _ 12 _ _ _ (ZQX.out.below hH12) (ZQY.out.below hH12) (by omega)).mono ?_
        rintro e V15 ⟨sB, aB, nB, eB, oB, mB, dB, rfl, cqB, v15⟩
        replace cqA := Lib.hid (cqA.out.below v15)
        replace cqB := Lib.hid cqB
        try go_simp
        refine hK.out _ _ (keepB v15 hH12 (Nat.le_refl _)) (fun hH15 => ?_)
        clear hK K
        try simp only [Act.put, List.setIfInBounds_toArray, List.set_cons_zero, List.set_cons_succ]
        refine wpAnyH_ready (rs := [16]) (by kernel_rfl) (by simp) ?_
        refine AllReadyH.cons rfl (fun K hK => ?_) AllReadyH.nil
        go_simp
        refine (Same_q cqA.out cqB.out rfl).mono ?_
        rintro e V16 ⟨rfl, v16⟩
        try go_simp
        refine hK.out _ _ (keepB v16 hH15 (Nat.le_refl _)) (fun hH16 => ?_)
        clear hK K
        try simp only [Act.put, List.setIfInBounds_toArray, List.set_cons_zero, List.set_cons_succ]
        refine wpAnyH_take (i := 17) (v := (.bool true)) rfl (by kernel_rfl) (by kernel_rfl) (by kernel_rfl) (fun _ _ _ h => h) (Or.inl ⟨by kernel_rfl, ?_⟩) hH16 ?_
        · intro w1 hB
          go_simp
        change wpAnyH _ _ _ _ _ _ _ (Act.put _ (some 101) _) _
        try simp only [Act.put, List.setIfInBounds_toArray, List.set_cons_zero, List.set_cons_succ]
        refine wpAnyH_take (i := 18) (v := (.bool true)) rfl (by kernel_rfl) (by kernel_rfl) (by kernel_rfl) (fun _ _ _ h => h) (Or.inl ⟨by kernel_rfl, ?_⟩) hH16 ?_
        · intro w1 hB
          go_simp
        change wpAnyH _ _ _ _ _ _ _ (Act.put _ (some 102) _) _
        try simp only [Act.put, List.setIfInBounds_toArray, List.set_cons_zero, List.set_cons_succ]
        refine wpAnyH_ready (rs := [19]) (by kernel_rfl) (by simp) ?_
        refine AllReadyH.cons rfl (fun K hK => ?_) AllReadyH.nil
        go_simp
        refine (awake2_any _ (htab.below (HB7.out.trans (Below.mono hH16 HB7.out.size)))).mono ?_
        rintro e V19 ⟨rfl, v19⟩
        try go_simp
        refine hK.out _ _ (keepB v19 hH16 (Nat.le_refl _)) (fun hH19 => ?_)
        clear hK K
        try simp only [Act.put, List.setIfInBounds_toArray, List.set_cons_zero, List.set_cons_succ]
        refine wpAnyH_take (i := 20) (v := (.bool true)) rfl (by kernel_rfl) (by kernel_rfl) (by kernel_rfl) (fun _ _ _ h => h) (Or.inl ⟨by kernel_rfl, ?_⟩) hH19 ?_
        · intro w1 hB
          go_simp
        change wpAnyH _ _ _ _ _ _ _ (Act.put _ (some 104) _) _
        try simp only [Act.put, List.setIfInBounds_toArray, List.set_cons_zero, List.set_cons_succ]
        refine wpAnyH_take (i := 21) (v := (.bool true)) rfl (by kernel_rfl) (by kernel_rfl) (by kernel_rfl) (fun _ _ _ h => h) (Or.inl ⟨by kernel_rfl, ?_⟩) hH19 ?_
        · intro w1 hB
          go_simp
        change wpAnyH _ _ _ _ _ _ _ (Act.put _ (some 4) _) _
        try simp only [Act.put, List.setIfInBounds_toArray, List.set_cons_zero, List.set_cons_succ]
        refine wpAnyH_done (by kernel_rfl) ?_ _
        go_wp2_with fail
        go_ret
        exact ⟨rfl, HB7.out.trans (Below.mono hH19 HB7.out.size)⟩
end Go.Proofs.YtdcnkebcpaelpaaGreatDoor
