import Derived.Test.YtkodfmpaeemaiaaDoorCls14
import Derived.Test.YtkodfmpaeemaiaaDoorTwo
import Derived.Deep.RegionLaw
/- Raw data of the laws of layer 6, brought to size: raw. -/
namespace Go.Proofs.YtkodfmpaeemaiaaDoor.C6
open Go.RowKit Go.Sort

theorem step_append_own {P : Program} {ops : Array Oper} {o : Oper} {a : Act} {w : World} {K : Act → World → Prop} {Q : Exit → Act → World → Prop} {E : Prop} (hg : o.guard = none) (s x : Operand) (t : TypeId)
    (ho : o.op = .call { callee := .builtin .append, args := #[s, x], argTypes := #[t, t] })
    (base : Nat) (e : TypeId) (i : TypeInfo) (z : Value) (size bytes : Nat) (ht : P.underlying t = some (.slice e)) (hi : P.info? e = some i) (hz : i.zero = some z)
    (hsize : i.size = size) (hby : i.bytes = bytes) (hzs : z.cells.size = size) (hsz : 0 < size)
    (v : Value) (n : Nat) (xs : List Value) (hs : a.eval s = v) (hown : w.ownsRow base e size v n xs)
    (ad : Addr) (m c : Nat) (news : List Value) (hx : a.eval x = .slice (some ad) m c) (hl : news.length = m * size) (hnews : ∀ j u, news[j]? = some u → w.cell? (ad.add j) = some u) (h1 : ∀ u ∈ news, u.oneCell' = true)
    (h63 : n + m ≤ maxLen) (hbytes : (n + m) * bytes ≤ 140737488355328) (hbase : base ≤ w.heap.size)
    (h : ∀ v' w', w'.ownsRow base e size v' (n + m) (xs ++ news) → w.grownBy w' v.ownBlock → (v' = .slice none 0 0 ↔ v = .slice none 0 0 ∧ m = 0) → K (a.put o.dst v') w') :
    if Region.wanted o (yielded ops a.tmps) = true then Oper.wp P o a w K Q else E := by
  rw [if_pos (by simp [Region.wanted, hg])]
  exact wp_append_own w s x t ho base e i z size bytes ht hi hz hsize hby hzs hsz v n xs hs hown ad m c news hx hl hnews h1 h63 hbytes hbase h
theorem of_row_n {w : World} {base n size : Nat} {e : TypeId} {v : Value} {xs : List Value} (h : w.ownsRow base e size v n xs) : ∃ ao cap, v = .slice ao n cap := by
  rcases h.2 with ⟨rfl, rfl⟩ | ⟨g, cap, cur, rfl, _⟩
  · exact ⟨none, 0, rfl⟩
  · exact ⟨_, cap, rfl⟩
/-- a classification's box whose list is whatever value -/
def Bxn (w : World) (g : Nat) (nm : ByteArray) (v : Value) : Prop := w.heap[g]? = some (.cells #[.string nm, v] 24 (0, 0))
theorem Bxn.c0 {w : World} {g : Nat} {nm : ByteArray} {v : Value} (h : Bxn w g nm v) : w.cell? ⟨g, 0, none⟩ = some (.string nm) := by
  unfold Bxn at h
  simp [World.cell?, h]
theorem Bxn.c1 {w : World} {g : Nat} {nm : ByteArray} {v : Value} (h : Bxn w g nm v) : w.cell? ⟨g, 1, none⟩ = some v := by
  unfold Bxn at h
  simp [World.cell?, h]
theorem Bxn.fz {w : World} {g : Nat} {nm : ByteArray} {v : Value} (h : Bxn w g nm v) (j : Nat) : w.frozen? ⟨g, j, none⟩ = false := by
  unfold Bxn at h
  simp [World.frozen?, h]
theorem Bxn.lt {w : World} {g : Nat} {nm : ByteArray} {v : Value} (h : Bxn w g nm v) : g < w.heap.size := (Array.getElem?_eq_some_iff.1 h).1
theorem Bxn.set {w : World} {g : Nat} {nm : ByteArray} {v : Value} (h : Bxn w g nm v) (u : Value) : Bxn (w.setCell ⟨g, 1, none⟩ u) g nm u := by
  unfold Bxn at h ⊢
  simp [World.setCell, Array.getElem?_modify, h]
theorem Bxn.set0 {w : World} {g : Nat} {nm : ByteArray} {v : Value} (h : Bxn w g nm v) (u : ByteArray) : Bxn (w.setCell ⟨g, 0, none⟩ (.string u)) g u v := by
  unfold Bxn at h ⊢
  simp [World.setCell, Array.getElem?_modify, h]
theorem Bxn.grown {w w' : World} {g : Nat} {nm : ByteArray} {v : Value} {row : Option Nat} (h : Bxn w g nm v) (k : w.grownBy w' row) (hne : some g ≠ row) : Bxn w' g nm v := (k.block g h.lt hne).trans h
theorem Bxn.below {w w' : World} {g : Nat} {nm : ByteArray} {v : Value} (h : Bxn w g nm v) (b : Below w.heap.size w w') : Bxn w' g nm v := (b.block g h.lt).trans h
theorem Bxn.keepB {w w' : World} {B g : Nat} {nm : ByteArray} {v : Value} (h : Bxn w g nm v) (b : Below B w w') (hg : g < B) : Bxn w' g nm v := (b.block g hg).trans h
theorem Bxn.new (w : World) (nm : ByteArray) (v : Value) : Bxn (w.alloc (.cells #[.string nm, v] 24)) w.heap.size nm v := by
  unfold Bxn World.alloc
  simp

theorem RdV.gbne {w w' : World} {gr : Nat} {ao : Option Addr} {cap : Nat} {vs : List Value} (h : RdV w ao cap vs) (hne : 0 < vs.length → ∀ b o, ao = some ⟨b, o, none⟩ → b ≠ gr) (g : w.grownBy w' (some gr)) : RdV w' ao cap vs := by
  refine ⟨h.1, h.2.1, ?_⟩
  rcases h.2.2 with hn | ⟨b, o, e, hc⟩
  · exact .inl hn
  · refine .inr ⟨b, o, e, fun i v hi => ?_⟩
    have hl : 0 < vs.length := by have := (List.getElem?_eq_some_iff.1 hi).1; omega
    exact g.cell (hc i v hi) (fun q => hne hl b o e (Option.some.inj q))
/-- the strings of a raw classification -/
def rawl (l : List ByteArray) : List ByteArray := (l.take 30).map fun s => s.extract 0 (min s.size 20)
set_option maxHeartbeats 8000000 in
set_option maxRecDepth 100000 in
theorem raw_v (nm : ByteArray) (ao : Option Addr) (cap : Nat) (l : List ByteArray) (w : World) (h : RdS w ao cap l) (hsz : ∀ s ∈ l, s.size ≤ 9223372036854775807) :
    Calls Tryd.prog 8 #[.agg #[.string nm, .slice ao l.length cap]] w fun e w' => ∃ ao' cap', e = .returned (.agg #[.string nm, .slice ao' (rawl l).length cap']) ∧ RdS w' ao' cap' (rawl l) ∧ Below w.heap.size w w' ∧ (0 < (strs (rawl l)).length → ∀ b o, ao' = some ⟨b, o, none⟩ → w.heap.size ≤ b) := by
  obtain ⟨i0, hi, hz0, hz1, hz2⟩ := info_parts infoStr
  obtain ⟨n, hn⟩ : ∃ n, n = l.length := ⟨_, rfl⟩
  have hcp : n ≤ cap := by have := h.1; rw [strs_length] at this; omega
  have hcp2 := h.2.1
  have HR := Lib.hid h
  have HN := Lib.hid hn
  have HSZ : Hid (∀ s ∈ l, s.size ≤ 9223372036854775807) := hsz
  obtain ⟨q, hq⟩ : ∃ q : Nat, min (n : Int) 30 = (q : Int) := ⟨(min (n : Int) 30).toNat, by omega⟩
  have hqn : q ≤ n := by omega
  have HQ : Hid (q = min 30 n) := by unfold Hid; omega
  have hqc : q ≤ cap := by omega
  have hqcI : (q : Int) ≤ (cap : Int) := by omega
  rw [← hn]
  clear h hn hsz
  by_cases hao : ao = none
  · subst hao
    have hc0 : cap = 0 := by
      rcases HR.out.2.2 with ⟨_, h⟩ | ⟨b, o, e, _⟩
      · exact h rfl
      · cases e
    obtain rfl : n = 0 := by omega
    obtain rfl : q = 0 := by omega
    obtain rfl : l = [] := List.eq_nil_of_length_eq_zero HN.out.symm
    subst hc0
    go_enter Tryd.func8, Tryd.ntmps8
    go_wp2_with fail
    have k1 := Bxn.new (w.alloc (.cells #[.string nm, .slice none 0 0] 24)) ⟨#[]⟩ (.slice none 0 0)
    have k2 := k1.below (below_new _ (.cells #[.string nm, .slice none 0 0] 24))
    have k3 := Bxn.new ((w.alloc (.cells #[.string nm, .slice none 0 0] 24)).alloc (.cells #[.string ⟨#[]⟩, .slice none 0 0] 24)) nm (.slice none 0 0)
    have bb := keep (keep (below_new w (.cells #[.string nm, .slice none 0 0] 24)) (below_new _ (.cells #[.string ⟨#[]⟩, .slice none 0 0] 24))) (below_new _ (.cells #[.string nm, .slice none 0 0] 24))
    simp only [World.size_alloc] at k2 k3
    obtain ⟨W3, hW3⟩ : ∃ W3, W3 = ((w.alloc (.cells #[.string nm, .slice none 0 0] 24)).alloc (.cells #[.string ⟨#[]⟩, .slice none 0 0] 24)).alloc (.cells #[.string nm, .slice none 0 0] 24) := ⟨_, rfl⟩
    have hs3 : W3.heap.size = w.heap.size + 1 + 1 + 1 := by rw [hW3]; simp
    rw [← hW3] at k2 k3 bb
    rw [← hW3]
    obtain ⟨g, hg⟩ : ∃ g, g = w.heap.size + 1 + 1 := ⟨_, rfl⟩
    obtain ⟨gr, hgr⟩ : ∃ gr, gr = w.heap.size + 1 := ⟨_, rfl⟩
    rw [← hg] at k3 hs3
    rw [← hgr] at k2
    rw [← hgr, show gr + 1 = g by omega]
    have K2 := Lib.hid k2
    have K3 := Lib.hid k3
    have BB := Lib.hid bb
    have HS3 := Lib.hid hs3
    have HGR : Hid (gr = w.heap.size + 1 ∧ g = gr + 1) := ⟨hgr, by omega⟩
    clear k1 k2 k3 bb hW3 hg hgr hs3
    go_loopw [17] (fun s17 wr => s17 = .int .i64 0 ∧ wr = W3) (fun _ _ => 0)
    case atStart => exact ⟨rfl, rfl⟩
    case round =>
      obtain ⟨rfl, rfl⟩ := hrel
      have hxr := K2.out
      obtain ⟨W4, hW4⟩ : ∃ W4, W4 = (wr.setCell ⟨gr, 0, none⟩ (.string nm)).setCell ⟨gr, 1, none⟩ (.slice none 0 0) := ⟨_, rfl⟩
      have hx4 : Bxn W4 gr nm (.slice none 0 0) := by rw [hW4]; exact (hxr.set0 nm).set _
      have hb4 : Below w.heap.size w W4 := by rw [hW4]; exact (BB.out.setCell (by show w.heap.size ≤ gr; have := HGR.out; omega) _).setCell (by show w.heap.size ≤ gr; have := HGR.out; omega) _
      have HX4 := Lib.hid hx4
      have HB4 := Lib.hid hb4
      have p0 := K3.out.c0
      have p1 := K3.out.c1
      have f0 := hxr.fz 0
      have f1 := hxr.fz 1
      have r0 := hxr.c0
      have r1 := hxr.c1
      have hng : gr ≠ g := by have := HGR.out; omega
      clear hxr hx4 hb4
      go_wp2_with fail
      rw [← hW4]
      have j0 := HX4.out.c0
      have j1 := HX4.out.c1
      refine bodyPost_ret (v := .agg #[.string nm, .slice none 0 0]) (by simp [results, Tryd.results8, go_sem, j0, j1]) rfl ?_
      exact ⟨none, 0, rfl, RdV.nil _, HB4.out, fun h => by simp [strs, rawl] at h⟩
  · obtain ⟨x0, rfl⟩ : ∃ x, ao = some x := by
      cases ao with
      | none => exact absurd rfl hao
      | some x => exact ⟨x, rfl⟩
    clear hao
    go_enter Tryd.func8, Tryd.ntmps8
    go_wp2_with fail
    have k1 := Bxn.new (w.alloc (.cells #[.string nm, .slice (some x0) n cap] 24)) ⟨#[]⟩ (.slice none 0 0)
    have k2 := k1.below (below_new _ (.cells #[.string nm, .slice none 0 0] 24))
    have k3 := Bxn.new ((w.alloc (.cells #[.string nm, .slice (some x0) n cap] 24)).alloc (.cells #[.string ⟨#[]⟩, .slice none 0 0] 24)) nm (.slice none 0 0)
    have bb := keep (keep (below_new w (.cells #[.string nm, .slice (some x0) n cap] 24)) (below_new _ (.cells #[.string ⟨#[]⟩, .slice none 0 0] 24))) (below_new _ (.cells #[.string nm, .slice none 0 0] 24))
    simp only [World.size_alloc] at k2 k3
    obtain ⟨W3, hW3⟩ : ∃ W3, W3 = ((w.alloc (.cells #[.string nm, .slice (some x0) n cap] 24)).alloc (.cells #[.string ⟨#[]⟩, .slice none 0 0] 24)).alloc (.cells #[.string nm, .slice none 0 0] 24) := ⟨_, rfl⟩
    have hs3 : W3.heap.size = w.heap.size + 1 + 1 + 1 := by rw [hW3]; simp
    rw [← hW3] at k2 k3 bb
    rw [← hW3]
    obtain ⟨g, hg⟩ : ∃ g, g = w.heap.size + 1 + 1 := ⟨_, rfl⟩
    obtain ⟨gr, hgr⟩ : ∃ gr, gr = w.heap.size + 1 := ⟨_, rfl⟩
    rw [← hg] at k3 hs3
    rw [← hgr] at k2
    rw [← hgr, show gr + 1 = g by omega]
    have K2 := Lib.hid k2
    have K3 := Lib.hid k3
    have BB := Lib.hid bb
    have HS3 := Lib.hid hs3
    have HRW := Lib.hid (HR.out.below bb)
    have HGR : Hid (gr = w.heap.size + 1 ∧ g = gr + 1) := ⟨hgr, by omega⟩
    clear k1 k2 k3 bb hW3 hg hgr hs3
    go_loopw [17] (fun s17 wr => ∃ (i : Nat) (v : Value), i ≤ q ∧ s17 = .int .i64 (i : Int) ∧ Hid (Bxn wr g nm v) ∧ Hid (wr.ownsRow (g + 1) 9 1 v i (strs ((rawl l).take i))) ∧ Hid (Below g W3 wr)) (fun s17 _ => q - (intOf s17).toNat)
    case atStart => exact ⟨0, _, by omega, rfl, K3, World.ownsRow_nil _ _ _ _, Below.refl _ _⟩
    case round =>
      obtain ⟨i, v, hiq, rfl, hbx, hown, hbl⟩ := hrel
      by_cases hlt : i < q
      · have hlt2 : (i : Int) < (q : Int) := by omega
        have hil : i < l.length := by have := HN.out; omega
        have hrd : RdS wr (some x0) cap l := HRW.out.keep (fun h0 b o e => by have := HR.out.lt h0 b o e; have := HGR.out; omega) hbl.out
        obtain ⟨b, o, e0, hc⟩ := hrd.atS (i := i) hil
        cases e0
        obtain ⟨t, ht⟩ : ∃ t, t = l.getD i ByteArray.empty := ⟨_, rfl⟩
        rw [← ht] at hc
        have htm : t ∈ l := by rw [ht]; simp [List.getD, hil]
        have hts := HSZ.out t htm
        obtain ⟨m, hm⟩ : ∃ m : Nat, min ((t.size : Nat) : Int) 20 = (m : Int) := ⟨(min ((t.size : Nat) : Int) 20).toNat, by omega⟩
        have hmt : m ≤ t.size := by omega
        have hmI : (m : Int) ≤ (t.size : Int) := by omega
        have HTK : Hid (strs ((rawl l).take (i + 1)) = strs ((rawl l).take i) ++ [.string (t.extract 0 m)]) := by
          have hi30 : i < 30 := by have := HQ.out; omega
          have hg : (rawl l)[i]? = some (t.extract 0 m) := by
            have hte : t = l[i] := by rw [ht]; simp [List.getD, hil]
            unfold rawl
            rw [List.getElem?_map, List.getElem?_take, if_pos hi30, List.getElem?_eq_getElem hil, Option.map_some, ← hte, show min t.size 20 = m by omega]
          unfold Hid
          rw [List.take_add_one, hg]
          simp [strs]
        have q1 := hbx.out.c1
        have qf := hbx.out.fz 1
        have hsz2 : g + 1 ≤ wr.heap.size := hbx.out.lt
        have hrows : ∀ k, v.ownBlock = some k → g + 1 ≤ k := fun k e => (hown.out.lt k e).1
        have hgrA : some g ≠ v.ownBlock := fun e => by have := hrows g e.symm; omega
        clear ht htm hrd
        go_wp2_with fail
        have hOA : ((wr.alloc (.cells #[.string (t.extract 0 m)] 9)).drew).ownsRow (g + 1) 9 1 v i (strs ((rawl l).take i)) := hown.out.alloc (.cells #[.string (t.extract 0 m)] 9)
        have HOA := Lib.hid hOA
        have hXB : Bxn (wr.alloc (.cells #[.string (t.extract 0 m)] 9)) g nm v := hbx.out.below (below_new wr (.cells #[.string (t.extract 0 m)] 9))
        have hXA : Bxn ((wr.alloc (.cells #[.string (t.extract 0 m)] 9)).drew) g nm v := hXB
        have q2 := hXB.c1
        have qf2 := hXB.fz 1
        have HXA := Lib.hid hXA
        have hBA : Below g W3 ((wr.alloc (.cells #[.string (t.extract 0 m)] 9)).drew) := (hbl.out.trans ((below_new wr (.cells #[.string (t.extract 0 m)] 9)).mono (by omega))).drew
        have HBA := Lib.hid hBA
        clear hOA hXA hBA hXB
        go_region_law (refine step_append_own rfl (.tmp 22) (.tmp 28) 22 rfl (g + 1) 9 i0 (.string ByteArray.empty) 1 16 Tryd.underlying22 hi hz0 hz1 hz2 rfl (by decide) v i _ (by simp [Act.eval, Act.put]) HOA.out ⟨wr.heap.size, 0, none⟩ 1 1 [.string (t.extract 0 m)] (by simp [Act.eval, Act.put]) rfl (one_cell wr _ _) (by intro u hu; simp at hu; rcases hu with rfl; rfl) (by unfold maxLen; omega) (by omega) (by simp [World.drew]; omega) ?_; intro v3 w3 hown3 hgr3 _; obtain ⟨a3, c3, rfl⟩ := of_row_n hown3; have HX3 : Hid (Bxn w3 g nm v) := HXA.out.grown hgr3 hgrA; have q3 := HX3.out.c1; have qf3 := HX3.out.fz 1)
        all_goals
          have HB3 : Hid (Below g W3 w3) := HBA.out.grown hgr3 (by show g ≤ (wr.alloc (.cells #[.string (t.extract 0 m)] 9)).heap.size; simp; omega) (fun k e => by have := hrows k e; omega)
          have HO3 : Hid (w3.ownsRow (g + 1) 9 1 (.slice a3 (i + 1) c3) (i + 1) (strs ((rawl l).take (i + 1)))) := by unfold Hid; rw [HTK.out]; exact hown3
          clear hown3 hgr3
          go_wp2_with fail
          go_roundw
          case rel => exact ⟨i + 1, .slice a3 (i + 1) c3, by omega, by go_num, HX3.out.set _, HO3.out.kept (gb_set _ _ _ _) (row_block HO3.out (by omega)), HB3.out.setCell (Nat.le_refl _) _⟩
          case measure => simp [intOf]; omega
      · obtain rfl : i = q := by omega
        have hlt2 : ¬ (i : Int) < (i : Int) := by omega
        have hrl : (rawl l).length = i := by unfold rawl; rw [List.length_map, List.length_take]; have := HQ.out; have := HN.out; omega
        have hw := hown.out
        rw [List.take_of_length_le (by omega)] at hw
        obtain ⟨a4, c4, e4, hrd4, hge4⟩ := RdV.of_row hw
        rw [strs_length, hrl] at e4
        subst e4
        have hxr : Bxn wr gr ⟨#[]⟩ (.slice none 0 0) := K2.out.keepB hbl.out (by have := HGR.out; omega)
        have HXR := Lib.hid hxr
        have HRL := Lib.hid hrl
        have HBB : Hid (Below w.heap.size w wr) := BB.out.trans (hbl.out.mono (by have := HGR.out; omega))
        obtain ⟨W4, hW4⟩ : ∃ W4, W4 = (wr.setCell ⟨gr, 0, none⟩ (.string nm)).setCell ⟨gr, 1, none⟩ (.slice a4 i c4) := ⟨_, rfl⟩
        have hx4 : Bxn W4 gr nm (.slice a4 i c4) := by rw [hW4]; exact (hxr.set0 nm).set _
        have hb4 : Below w.heap.size w W4 := by rw [hW4]; exact (HBB.out.setCell (by show w.heap.size ≤ gr; have := HGR.out; omega) _).setCell (by show w.heap.size ≤ gr; have := HGR.out; omega) _
        have hr4 : RdS W4 a4 c4 (rawl l) := by
          rw [hW4]
          have hne : 0 < (strs (rawl l)).length → ∀ b o, a4 = some ⟨b, o, none⟩ → b ≠ gr := fun h0 b o e => by have := hge4 h0 b o e; have := HGR.out; omega
          exact (hrd4.gbne hne (gb_set _ _ _ _)).gbne hne (gb_set _ _ _ _)
        have HX4 := Lib.hid hx4
        have HB4 := Lib.hid hb4
        have HR4 := Lib.hid hr4
        have HGE := Lib.hid hge4
        have p0 := hbx.out.c0
        have p1 := hbx.out.c1
        have f0 := hxr.fz 0
        have f1 := hxr.fz 1
        have r0 := hxr.c0
        have r1 := hxr.c1
        have hng : gr ≠ g := by have := HGR.out; omega
        clear hxr hx4 hb4 hr4 hw hrd4 hge4 hrl
        go_wp2_with fail
        rw [← hW4]
        have j0 := HX4.out.c0
        have j1 := HX4.out.c1
        refine bodyPost_ret (v := .agg #[.string nm, .slice a4 i c4]) (by simp [results, Tryd.results8, go_sem, j0, j1]) rfl ?_
        exact ⟨a4, c4, by rw [HRL.out], HR4.out, HB4.out, fun h0 b o e => by have := HGE.out h0 b o e; have := HGR.out; omega⟩
end Go.Proofs.YtkodfmpaeemaiaaDoor.C6
