import Derived.Test.YtffnmejabphabaaDoorCal10
import Derived.Laws.AppendOwn
import Derived.Deep.AppendLies
/- The tape of raw integers and the lists of holidays that the calendar's laws draw of it. -/
namespace Go.Proofs.YtffnmejabphabaaDoor
open Go.RowKit Go.Sort

theorem bk_trans {a b c : World} {row : Option Nat} (h : a.grownBy b row) (k : b.grownBy c row) : a.grownBy c row :=
  ⟨k.os.trans h.os, k.tape.trans h.tape, k.output.trans h.output, Nat.le_trans h.size k.size, fun i hi hne => (k.block i (Nat.lt_of_lt_of_le hi h.size) hne).trans (h.block i hi hne)⟩
theorem bk_set (w : World) (b j : Nat) (u : Value) : w.grownBy (w.setCell ⟨b, j, none⟩ u) (some b) :=
  ⟨rfl, rfl, rfl, by simp, fun i _ hne => Below.heap_setCell _ _ _ _ (fun e => hne (by rw [e]))⟩
theorem bk_drewN (w : World) (n : Nat) (row : Option Nat) : w.grownBy (w.drewN n) row := ⟨rfl, rfl, rfl, Nat.le_refl _, fun _ _ _ => rfl⟩
theorem bk_below {w w' : World} {B : Nat} (h : w.grownBy w' (some B)) (hB : B ≤ w.heap.size) : Below B w w' := ⟨h.os, h.tape, h.output, h.size, fun k hk => h.block k (by omega) (fun e => by cases e; omega)⟩

theorem RdI.keep {w w' : World} {B : Nat} {ao : Option Addr} {cap : Nat} {zs : List Int} (h : RdI w ao cap zs) (hb : 0 < zs.length → ∀ b o, ao = some ⟨b, o, none⟩ → b < B) (g : Below B w w') : RdI w' ao cap zs := by
  refine ⟨h.1, h.2.1, h.2.2.1, ?_⟩
  rcases h.2.2.2 with hn | ⟨b, o, e, hc⟩
  · exact .inl hn
  · exact .inr ⟨b, o, e, fun i hi => (g.cell (p := ⟨b, o + i, none⟩) (hb (by omega) b o e)).trans (hc i hi)⟩
theorem RdI.lt {w : World} {ao : Option Addr} {cap : Nat} {zs : List Int} (h : RdI w ao cap zs) : 0 < zs.length → ∀ b o, ao = some ⟨b, o, none⟩ → b < w.heap.size := by
  intro h0 b o e
  rcases h.2.2.2 with ⟨hn, _⟩ | ⟨b', o', e', hc⟩
  · rw [hn] at h0; simp at h0
  · rw [e] at e'
    cases e'
    exact World.block_lt_of_cell? _ _ (hc 0 h0)
theorem RdI.take {w : World} {ao : Option Addr} {cap : Nat} {zs : List Int} (h : RdI w ao cap zs) (k : Nat) : RdI w ao cap (zs.take k) := by
  refine ⟨Nat.le_trans (by rw [List.length_take]; omega) h.1, h.2.1, fun z hz => h.2.2.1 z (List.mem_of_mem_take hz), ?_⟩
  rcases h.2.2.2 with ⟨rfl, hn⟩ | ⟨b, o, rfl, hc⟩
  · exact .inl ⟨by simp, hn⟩
  · refine .inr ⟨b, o, rfl, fun i hi => ?_⟩
    rw [List.length_take] at hi
    rw [hc i (by omega)]
    have : i < k := by omega
    simp [List.getD, this]
theorem RdI.below {w w' : World} {ao : Option Addr} {cap : Nat} {zs : List Int} (h : RdI w ao cap zs) (g : Below w.heap.size w w') : RdI w' ao cap zs := by
  refine ⟨h.1, h.2.1, h.2.2.1, ?_⟩
  rcases h.2.2.2 with hn | ⟨b, o, e, hc⟩
  · exact .inl hn
  · exact .inr ⟨b, o, e, fun i hi => (g.cell (p := ⟨b, o + i, none⟩) (World.block_lt_of_cell? _ _ (hc i hi))).trans (hc i hi)⟩

/-- the tape's box: its list and how far it has been read -/
def Tap (w : World) (B : Nat) (ao : Option Addr) (n cap i : Nat) : Prop := w.heap[B]? = some (.cells #[.slice ao n cap, .int .i64 (i : Int)] 37 (0, 0))
theorem Tap.c0 {w : World} {B : Nat} {ao : Option Addr} {n cap i : Nat} (h : Tap w B ao n cap i) : w.cell? ⟨B, 0, none⟩ = some (.slice ao n cap) := by
  unfold Tap at h
  simp [World.cell?, h]
theorem Tap.c1 {w : World} {B : Nat} {ao : Option Addr} {n cap i : Nat} (h : Tap w B ao n cap i) : w.cell? ⟨B, 1, none⟩ = some (.int .i64 (i : Int)) := by
  unfold Tap at h
  simp [World.cell?, h]
theorem Tap.fz {w : World} {B : Nat} {ao : Option Addr} {n cap i : Nat} (h : Tap w B ao n cap i) (j : Nat) : w.frozen? ⟨B, j, none⟩ = false := by
  unfold Tap at h
  simp [World.frozen?, h]
theorem Tap.lt {w : World} {B : Nat} {ao : Option Addr} {n cap i : Nat} (h : Tap w B ao n cap i) : B < w.heap.size := (Array.getElem?_eq_some_iff.1 h).1
theorem Tap.set {w : World} {B : Nat} {ao : Option Addr} {n cap i : Nat} (h : Tap w B ao n cap i) (j : Nat) : Tap (w.setCell ⟨B, 1, none⟩ (.int .i64 (j : Int))) B ao n cap j := by
  unfold Tap at h ⊢
  simp [World.setCell, Array.getElem?_modify, h]
theorem Tap.grown {w w' : World} {B : Nat} {ao : Option Addr} {n cap i : Nat} (h : Tap w B ao n cap i) {row : Option Nat} (g : w.grownBy w' row) (hne : some B ≠ row) : Tap w' B ao n cap i := (g.block B h.lt hne).trans h

def NextPost (w : World) (B : Nat) (ao : Option Addr) (n cap i m : Nat) (e : Ending) (w' : World) : Prop := ∃ r : Nat, e = .returned (.int .i64 (r : Int)) ∧ r < m ∧ w.grownBy w' (some B) ∧ w'.heap.size = w.heap.size ∧ Tap w' B ao n cap (i + 1)
theorem NextPost.of {w : World} {B : Nat} {ao : Option Addr} {n cap i m r q : Nat} {e : Ending} (h : Tap w B ao n cap i) (he : e = .returned (.int .i64 (r : Int))) (hr : r < m) : NextPost w B ao n cap i m e ((w.drewN q).setCell ⟨B, 1, none⟩ (.int .i64 ((i : Int) + 1))) := by
  refine ⟨r, he, hr, bk_trans (bk_drewN w q _) (bk_set _ _ _ _), by simp [World.drewN], ?_⟩
  have : Tap (w.drewN q) B ao n cap i := h
  exact this.set (i + 1)

set_option maxHeartbeats 4000000 in
theorem Next_v (B : Nat) (ao : Option Addr) (cap : Nat) (ts : List Int) (i m : Nat) (w : World) (hb : Tap w B ao ts.length cap i) (ht : RdI w ao cap ts) (hi : i ≤ 1000) (hm : 1 ≤ m) (hm2 : m ≤ 1000000) (n : Int) (hn : n = m) :
    Calls Tryd.prog 56 #[.pointer (some ⟨B, 0, none⟩), .int .i64 n] w (NextPost w B ao ts.length cap i m) := by
  subst hn
  have c0 := hb.c0
  have c1 := hb.c1
  have f1 := hb.fz 1
  have HB := Lib.hid hb
  have main : ∀ v : Int, ∃ u r : Nat, Hid (IntKind.u64.wrap v = (u : Int)) ∧ (u : Int) ≤ 18446744073709551615 ∧ r < m ∧ Hid ((u : Int) % (m : Int) = (r : Int)) ∧ 0 ≤ (u : Int) % (m : Int) ∧ (u : Int) % (m : Int) ≤ 1000000 := by
    intro v
    have hb : 0 ≤ IntKind.u64.wrap v ∧ IntKind.u64.wrap v ≤ 18446744073709551615 := by rw [IntKind.wrap_u64]; omega
    refine ⟨(IntKind.u64.wrap v).toNat, (IntKind.u64.wrap v).toNat % m, by unfold Hid; omega, by omega, Nat.mod_lt _ (by omega), (Int.natCast_emod _ _).symm, by omega, ?_⟩
    have := Int.emod_lt_of_pos (((IntKind.u64.wrap v).toNat : Nat) : Int) (show (0 : Int) < (m : Int) by omega)
    omega
  have hmx : max (m : Int) 1 = (m : Int) := by omega
  by_cases hlt : i < ts.length
  · obtain ⟨b, o, rfl, hc⟩ : ∃ b o, ao = some ⟨b, o, none⟩ ∧ w.cell? ⟨b, o + i, none⟩ = some (.int .i64 (ts.getD i 0)) := by
      rcases ht.2.2.2 with ⟨e, _⟩ | ⟨b, o, e, hh⟩
      · rw [e] at hlt; simp at hlt
      · exact ⟨b, o, e, hh i hlt⟩
    have hl1 := ht.1
    have hl2 := ht.2.1
    obtain ⟨l, hl⟩ : ∃ l, l = ts.length := ⟨_, rfl⟩
    obtain ⟨v, hv⟩ : ∃ v, v = ts.getD i 0 := ⟨_, rfl⟩
    obtain ⟨u, r, hu, hub, hr, he, he0, he1⟩ := main v
    rw [← hl] at HB c0 hlt hl1 ⊢
    rw [← hv] at hc
    have hw := hu.out
    have hd : decide (i < l) = true := by simp; omega
    clear hb ht main hl hv hu
    go_enter Tryd.func56, Tryd.ntmps56
    go_wp2_with fail
    go_quiet (fail)
    go_wp2_with fail
    go_quiet (fail)
    go_wp2_with fail
    go_ret
    exact NextPost.of HB.out (ret_i64c he.out) hr
  · obtain ⟨l, hl⟩ : ∃ l, l = ts.length := ⟨_, rfl⟩
    obtain ⟨u, r, hu, hub, hr, he, he0, he1⟩ := main 0
    rw [← hl] at HB c0 hlt ⊢
    have hd : decide (i < l) = false := by simp; omega
    have hu0 : u = 0 := by have := hu.out; rw [IntKind.wrap_u64] at this; omega
    subst hu0
    clear hb ht main hl hu
    have hr0 : Hid ((0 : Int) % (m : Int) = (r : Int)) := he
    go_enter Tryd.func56, Tryd.ntmps56
    go_wp2_with fail
    go_quiet (fail)
    go_wp2_with fail
    go_ret
    first
      | exact NextPost.of HB.out (ret_i64c hr0.out) hr
      | exact NextPost.of HB.out (ret_i64c (by have := hr0.out; simp at this; simpa using this)) hr
theorem infoInt : (Tryd.prog.info? 3).map (fun i => (i.zero, i.size, i.bytes)) = some (some (.int .i64 0), 1, 8) := by kernel_rfl
theorem info_partsc {t : TypeId} {z : Value} {s b : Nat} (h : (Tryd.prog.info? t).map (fun i => (i.zero, i.size, i.bytes)) = some (some z, s, b)) : ∃ i, Tryd.prog.info? t = some i ∧ i.zero = some z ∧ i.size = s ∧ i.bytes = b := by
  obtain ⟨i, hi, he⟩ := Option.map_eq_some_iff.1 h
  simp at he
  exact ⟨i, hi, he.1, he.2.1, he.2.2⟩
/-- integers as values -/
def vals (zs : List Int) : List Value := zs.map (Value.int .i64)
theorem vals_length (zs : List Int) : (vals zs).length = zs.length := by simp [vals]
theorem one_cell (w : World) (u : Value) (t : TypeId) : ∀ j x, [u][j]? = some x → (w.alloc (.cells #[u] t)).cell? ((⟨w.heap.size, 0, none⟩ : Addr).add j) = some x := by
  intro j x hj
  rw [Addr.add_lit]
  match j with
  | 0 => cases hj; exact World.cell?_alloc_mark w _ _ (0, 0) 0
  | j + 1 => cases hj
theorem two_cell (w : World) (u v : Value) (t : TypeId) : ∀ j x, [u, v][j]? = some x → (w.alloc (.cells #[u, v] t)).cell? ((⟨w.heap.size, 0, none⟩ : Addr).add j) = some x := by
  intro j x hj
  rw [Addr.add_lit]
  match j with
  | 0 => cases hj; exact World.cell?_alloc_mark w _ _ (0, 0) 0
  | 1 => cases hj; exact World.cell?_alloc_mark w _ _ (0, 0) 1
  | j + 2 => cases hj
theorem RdI.of_row {w : World} {base n : Nat} {v : Value} {zs : List Int} (h : w.ownsRow base 3 1 v n (vals zs)) (hz : ∀ z ∈ zs, -9223372036854775808 ≤ z ∧ z ≤ 9223372036854775807) :
    ∃ ao cap, v = .slice ao zs.length cap ∧ RdI w ao cap zs := by
  have hlen : zs.length = n := by simpa [vals_length] using h.1
  subst hlen
  rcases h.2 with ⟨rfl, h0⟩ | ⟨g, cap, cur, rfl, _, _, hn, hc, _, _⟩
  · have : zs = [] := List.eq_nil_of_length_eq_zero h0
    subst this
    exact ⟨none, 0, rfl, by simp, by omega, by simp, .inl ⟨rfl, fun _ => rfl⟩⟩
  · refine ⟨_, cap, rfl, hn, by unfold maxLen at hc; omega, hz, .inr ⟨g, 0, rfl, fun i hi => ?_⟩⟩
    rw [Nat.zero_add, h.cellAt i (by omega)]
    simp [vals, List.getD, hi]
theorem row_block {w : World} {base n size : Nat} {e : TypeId} {v : Value} {xs : List Value} {B : Nat} (h : w.ownsRow base e size v n xs) (hB : B < base) : v.ownBlock = none ∨ v.ownBlock ≠ some B := by
  cases hv : v.ownBlock with
  | none => exact .inl rfl
  | some g =>
    have := h.lt g hv
    exact .inr (fun e => by cases e; omega)

set_option maxHeartbeats 8000000 in
set_option maxRecDepth 100000 in
theorem holidays_v (B : Nat) (ao : Option Addr) (cap : Nat) (ts : List Int) (d : Int) (w : World) (hb : Tap w B ao ts.length cap 0) (ht : RdI w ao cap ts) (htB : 0 < ts.length → ∀ b o, ao = some ⟨b, o, none⟩ → b < B) (hd0 : 0 ≤ d) (hd1 : d ≤ 200000) :
    Calls Tryd.prog 34 #[.pointer (some ⟨B, 0, none⟩), .int .i64 d] w fun e w' => ∃ ho hc hs, e = .returned (.slice ho hs.length hc) ∧ RdI w' ho hc hs ∧ hs.length ≤ 14 ∧ Below B w w' := by
  obtain ⟨i0, hi, hz0, hz1, hz2⟩ := info_partsc infoInt
  have hBl := hb.lt
  have HB := Lib.hid hb
  have HT := Lib.hid ht
  have HTB := Lib.hid htB
  have hB0 : B + 1 ≤ w.heap.size := hBl
  clear hb ht htB
  go_enter Tryd.func34, Tryd.ntmps34
  go_wp2_with fail
  refine (Next_v B ao cap ts 0 12 _ HB.out HT.out (by omega) (by omega) (by omega) 12 rfl).mono ?_; rintro e w1 ⟨m, rfl, hm, g1, z1, t1⟩
  have hT1 := Lib.hid t1
  have hG1 := Lib.hid g1
  have HZ1 := Lib.hid z1
  clear t1 g1 z1
  go_wp2_with fail
  go_loopw [5, 8] (fun s5 s8 wr => ∃ (i : Nat) (hs : List Int) (v : Value), i ≤ m ∧ s8 = .int .i64 (i : Int) ∧ v = s5 ∧ Hid (hs.length = i) ∧ Hid (wr.ownsRow (B + 1) 3 1 v i (vals hs)) ∧ Hid (∀ z ∈ hs, -9223372036854775808 ≤ z ∧ z ≤ 9223372036854775807) ∧ Hid (Tap wr B ao ts.length cap (i + 1)) ∧ Hid (Below B w wr)) (fun _ s8 _ => m - (intOf s8).toNat)
  case atStart => exact ⟨0, [], _, by omega, rfl, rfl, rfl, World.ownsRow_nil _ _ _ _, fun z hz => by simp at hz, hT1.out, bk_below hG1.out (by omega)⟩
  case round =>
    obtain ⟨i, hs, v, hi12, rfl, rfl, hl, hown, hzs, htap, hbl⟩ := hrel
    by_cases hlt : i < m
    · have hlt2 : (i : Int) < (m : Int) := by omega
      go_wp2_with fail
      refine (Next_v B ao cap ts (i + 1) 21 _ htap.out (HT.out.keep HTB.out hbl.out) (by omega) (by omega) (by omega) 21 rfl).mono ?_; rintro e w2 ⟨r, rfl, hr, g2, z2, t2⟩
      have hown2 := hown.out.kept g2 (row_block hown.out (by omega))
      have hsz2 : B + 1 ≤ w2.heap.size := t2.lt
      have hT2 := Lib.hid t2
      have hG2 := Lib.hid g2
      have HO := Lib.hid hown2
      clear t2 g2 z2 hown2
      go_wp2_with (at_builtin; refine wpList_append_own _ rfl _ _ 28 rfl (B + 1) 3 i0 (.int .i64 0) 1 8 Tryd.underlying28 hi hz0 hz1 hz2 rfl (by omega) _ _ _ rfl (HO.out.alloc _) ⟨w2.heap.size, 0, none⟩ 1 1 [.int .i64 (d - 10 + (r : Int))] rfl rfl (one_cell _ _ _) (by intro u hu; simp at hu; rcases hu with rfl; rfl) (by unfold maxLen; omega) (by omega) (by simp; omega) ?_; intro v3 w3 hown3 hgr3 _)
      have hk3 : some B ≠ v.ownBlock := by
        rcases row_block hown.out (show B < B + 1 by omega) with e | e
        · rw [e]; simp
        · exact fun q => e q.symm
      have hBA : Below B w2 (w2.alloc (.cells #[.int .i64 (d - 10 + (r : Int))] 3)) := (Below.refl _ _).alloc (by omega) _
      have ht3 : Tap w3 B ao ts.length cap (i + 2) := Tap.grown (w := w2.alloc (.cells #[.int .i64 (d - 10 + (r : Int))] 3)) (hT2.out.grown (World.grownBy_alloc w2 _ none) (by simp)) hgr3 hk3
      have hrows : ∀ k, v.ownBlock = some k → B + 1 ≤ k := fun k e => (hown.out.lt k e).1
      have hb3 : Below B w w3 := by
        refine Below.trans hbl.out (Below.trans (bk_below hG2.out (by have := htap.out.lt; omega)) (Below.trans hBA ?_))
        refine (Below.refl _ _).grown hgr3 (by simp; omega) (fun k e => ?_)
        have := hrows k e
        omega
      have HT3 := Lib.hid ht3
      have HB3 := Lib.hid hb3
      have HO3 : Hid (w3.ownsRow (B + 1) 3 1 v3 (i + 1) (vals (hs ++ [d - 10 + (r : Int)]))) := by unfold Hid; rw [show vals (hs ++ [d - 10 + (r : Int)]) = vals hs ++ [.int .i64 (d - 10 + (r : Int))] by simp [vals]]; exact hown3
      have HZ3 : Hid (∀ z ∈ hs ++ [d - 10 + (r : Int)], -9223372036854775808 ≤ z ∧ z ≤ 9223372036854775807) := fun z hz => by
        rcases List.mem_append.1 hz with h | h
        · exact hzs.out z h
        · simp at h; omega
      have HL3 : Hid ((hs ++ [d - 10 + (r : Int)]).length = i + 1) := by unfold Hid; rw [List.length_append, hl.out]; rfl
      clear ht3 hb3 hown3 hgr3 hBA hrows hk3
      go_wp2_with fail
      go_roundw
      case rel => exact ⟨i + 1, _, _, by omega, by go_num, rfl, HL3, HO3, HZ3, HT3, HB3⟩
      case measure => simp [intOf]; omega
    · obtain rfl : i = m := by omega
      have hlt2 : ¬ (i : Int) < (i : Int) := by omega
      go_wp2_with fail
      refine (Next_v B ao cap ts (i + 1) 3 _ htap.out (HT.out.keep HTB.out hbl.out) (by omega) (by omega) (by omega) 3 rfl).mono ?_; rintro e w2 ⟨r, rfl, hr, g2, z2, t2⟩
      have hown2 := hown.out.kept g2 (row_block hown.out (by omega))
      have hT2 := Lib.hid t2
      have hb2 := Lib.hid (Below.trans hbl.out (bk_below g2 (by have := htap.out.lt; omega)))
      have HO2 := Lib.hid hown2
      clear t2 g2 z2 hown2
      go_wp2_with fail
      refine (Next_v B ao cap ts (i + 2) 3 _ hT2.out (HT.out.keep HTB.out hb2.out) (by omega) (by omega) (by omega) 3 rfl).mono ?_; rintro e w3 ⟨q, rfl, hq, g3, z3, t3⟩
      have hown3 := HO2.out.kept g3 (row_block HO2.out (by omega))
      have hsz3 : B + 1 ≤ w3.heap.size := t3.lt
      have hb3 := Lib.hid (Below.trans hb2.out (bk_below g3 (by have := hT2.out.lt; omega)))
      have HO3 := Lib.hid hown3
      clear t3 g3 z3 hown3
      go_wp2_with (at_builtin; refine wpList_append_own _ rfl _ _ 28 rfl (B + 1) 3 i0 (.int .i64 0) 1 8 Tryd.underlying28 hi hz0 hz1 hz2 rfl (by omega) _ _ _ rfl (HO3.out.alloc _) ⟨w3.heap.size, 0, none⟩ 2 2 [.int .i64 (-1 - (r : Int)), .int .i64 (182621 + (q : Int))] rfl rfl (two_cell _ _ _ _) (by intro u hu; simp at hu; rcases hu with rfl | rfl <;> rfl) (by unfold maxLen; omega) (by omega) (by simp; omega) ?_; intro v4 w4 hown4 hgr4 _)
      have hown4' : w4.ownsRow (B + 1) 3 1 v4 (i + 2) (vals (hs ++ [-1 - (r : Int), 182621 + (q : Int)])) := by rw [show vals (hs ++ [-1 - (r : Int), 182621 + (q : Int)]) = vals hs ++ [.int .i64 (-1 - (r : Int)), .int .i64 (182621 + (q : Int))] by simp [vals]]; exact hown4
      have hrows : ∀ k, v.ownBlock = some k → B + 1 ≤ k := fun k e => (HO3.out.lt k e).1
      have hb4 : Below B w w4 := by
        refine Below.trans hb3.out (Below.trans (b := w3.alloc (.cells #[.int .i64 (-1 - (r : Int)), .int .i64 (182621 + (q : Int))] 3)) ((Below.refl _ _).alloc (by omega) _) ((Below.refl _ _).grown hgr4 (by simp; omega) (fun k e => ?_)))
        have := hrows k e
        omega
      have hz4 : ∀ z ∈ hs ++ [-1 - (r : Int), 182621 + (q : Int)], -9223372036854775808 ≤ z ∧ z ≤ 9223372036854775807 := fun z hz => by
        rcases List.mem_append.1 hz with h | h
        · exact hzs.out z h
        · simp at h; omega
      obtain ⟨ho, hc, rfl, hr4⟩ := RdI.of_row hown4' hz4
      have hl4 : (hs ++ [-1 - (r : Int), 182621 + (q : Int)]).length ≤ 14 := by rw [List.length_append, hl.out]; simp; omega
      clear hown4 hown4' hgr4 hrows
      obtain ⟨hs4, hhs⟩ : ∃ l, l = hs ++ [-1 - (r : Int), 182621 + (q : Int)] := ⟨_, rfl⟩
      rw [← hhs] at hr4 hl4
      rw [← hhs]
      clear hhs hz4
      go_wp2_with fail
      go_ret
      exact ⟨ho, hc, hs4, rfl, hr4, hl4, hb4⟩

theorem Tap.new (w : World) (ao : Option Addr) (n cap : Nat) : Tap (w.alloc (.cells #[.slice ao n cap, .int .i64 0] 37)) w.heap.size ao n cap 0 := by
  unfold Tap World.alloc
  simp
/-- the holidays of a law -/
theorem law_holidays (ao : Option Addr) (cap : Nat) (ts : List Int) (d : Int) (w : World) (ht : RdI w ao cap ts) (hd0 : 0 ≤ d) (hd1 : d ≤ 200000) :
    Calls Tryd.prog 34 #[.pointer (some ⟨w.heap.size, 0, none⟩), .int .i64 d] (w.alloc (.cells #[.slice ao ts.length cap, .int .i64 0] 37)) fun e w' => ∃ ho hc hs, e = .returned (.slice ho hs.length hc) ∧ RdI w' ho hc hs ∧ hs.length ≤ 14 ∧ Below w.heap.size w w' := by
  have b0 := below_new w (.cells #[.slice ao ts.length cap, .int .i64 0] 37)
  exact (holidays_v w.heap.size ao cap ts d _ (Tap.new w ao ts.length cap) (ht.below b0) ht.lt hd0 hd1).mono fun e w' ⟨ho, hc, hs, h1, h2, h3, h4⟩ => ⟨ho, hc, hs, h1, h2, h3, b0.trans h4⟩
end Go.Proofs.YtffnmejabphabaaDoor
