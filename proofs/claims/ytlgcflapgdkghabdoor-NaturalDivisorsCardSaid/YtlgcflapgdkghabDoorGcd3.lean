/- Contract of natural.simulate: Lehmer's cofactors. -/
import Derived.Test.YtlgcflapgdkghabDoorGcd2
import Derived.Test.YtlgcflapgdkghabDoorBits
namespace Go.Proofs.YtlgcflapgdkghabDoor
open Go.RowKit

/-- block b holds these cells of a struct of cofactors -/
def Blk (w : World) (b : Nat) (cs : List Value) : Prop := w.heap[b]? = some (.cells cs.toArray 53 (0, 0))
theorem Blk.lt {w : World} {b : Nat} {cs : List Value} (h : Blk w b cs) : b < w.heap.size := (Array.getElem?_eq_some_iff.1 h).1
theorem Blk.cell {w : World} {b j : Nat} {cs : List Value} {v : Value} (h : Blk w b cs) (hj : cs[j]? = some v) : w.cell? ⟨b, j, none⟩ = some v := by
  unfold Blk at h
  simp [World.cell?, h, hj]
theorem Blk.frozen {w : World} {b : Nat} {cs : List Value} (h : Blk w b cs) (j : Nat) : w.frozen? ⟨b, j, none⟩ = false := by
  unfold Blk at h
  simp [World.frozen?, h]
theorem Blk.set {w : World} {b : Nat} {cs : List Value} (h : Blk w b cs) (j : Nat) (v : Value) : Blk (w.setCell ⟨b, j, none⟩ v) b (cs.set j v) := by
  unfold Blk at h ⊢
  simp [World.setCell, Array.getElem?_modify, h]
theorem Blk.other {w : World} {b b' j : Nat} {cs : List Value} (h : Blk w b cs) (hne : b' ≠ b) (v : Value) : Blk (w.setCell ⟨b', j, none⟩ v) b cs := by
  unfold Blk at h ⊢
  rw [← h]; exact Below.heap_setCell _ _ _ _ (fun e => hne (by rw [e]))
theorem Blk.below {B : Nat} {w w' : World} {b : Nat} {cs : List Value} (h : Blk w b cs) (hb : Below B w w') (hB : b < B) : Blk w' b cs := (hb.block b hB).trans h
theorem Blk.new (w : World) (cs : List Value) : Blk (w.alloc (.cells cs.toArray 53)) w.heap.size cs := heap_alloc_new w _

theorem Blk.drewN {w : World} {b : Nat} {cs : List Value} (h : Blk w b cs) (n : Nat) : Blk (w.drewN n) b cs := h
/-- the five fields -/
def cof (x0 x1 y0 y1 : Nat) (s : Bool) : List Value := [.int .u64 (x0 : Int), .int .u64 (x1 : Int), .int .u64 (y0 : Int), .int .u64 (y1 : Int), .bool s]
theorem Blk.cells {w : World} {b x0 x1 y0 y1 : Nat} {s : Bool} (h : Blk w b (cof x0 x1 y0 y1 s)) :
    w.cell? ⟨b, 0, none⟩ = some (.int .u64 (x0 : Int)) ∧ w.cell? ⟨b, 1, none⟩ = some (.int .u64 (x1 : Int)) ∧ w.cell? ⟨b, 2, none⟩ = some (.int .u64 (y0 : Int)) ∧ w.cell? ⟨b, 3, none⟩ = some (.int .u64 (y1 : Int)) ∧ w.cell? ⟨b, 4, none⟩ = some (.bool s) ∧
      w.frozen? ⟨b, 0, none⟩ = false ∧ w.frozen? ⟨b, 1, none⟩ = false ∧ w.frozen? ⟨b, 2, none⟩ = false ∧ w.frozen? ⟨b, 3, none⟩ = false ∧ w.frozen? ⟨b, 4, none⟩ = false :=
  ⟨h.cell rfl, h.cell rfl, h.cell rfl, h.cell rfl, h.cell rfl, h.frozen _, h.frozen _, h.frozen _, h.frozen _, h.frozen _⟩
theorem LInv.u_le {U V u v x1 x2 y1 y2 : Nat} {s : Bool} (h : LInv U V u v x1 x2 y1 y2 s) : u ≤ U := by
  have h1 := h.hU
  have h2 : 1 * u ≤ y2 * u := Nat.mul_le_mul_right _ h.y2p
  omega
theorem wrap_nat {e : Int} {n : Nat} (he : e = (n : Int)) (h : n < 18446744073709551616) : IntKind.u64.wrap e = (n : Int) := by
  rw [he, IntKind.wrap_u64]; omega

/-- what simulate gives -/
def SimPost (N M : Nat) (w : World) (e : Ending) (w' : World) : Prop :=
  ∃ (x0 x1 y0 y1 : Nat) (s : Bool), e = .returned (.agg #[.int .u64 (x0 : Int), .int .u64 (x1 : Int), .int .u64 (y0 : Int), .int .u64 (y1 : Int), .bool s]) ∧ LOut N M x0 x1 y0 y1 (!s) ∧ Below w.heap.size w w'

set_option maxHeartbeats 4000000 in
set_option maxRecDepth 100000 in
theorem simulate_any (ao bo : Option Addr) (ca cb : Nat) (xs ys : List Nat) (w : World) (ha : Rd w ao ca xs) (hb : Rd w bo cb ys) (hx : xs.length ≤ 549755813888) (hle : val ys ≤ val xs) (hbits : 65 ≤ bl (val xs)) :
    Calls Tryd.prog 35 #[.slice ao xs.length ca, .slice bo ys.length cb] w (SimPost (val xs) (val ys) w) := by
  have hma := ha.max
  have hla := ha.le
  have hmb := hb.max
  have hlb := hb.le
  obtain ⟨k, hk⟩ : ∃ k, bl (val xs) = k + 64 := ⟨bl (val xs) - 64, by omega⟩
  have hbl2 : bl (val xs) ≤ 32 * xs.length := bl_le.2 (by rw [← pw_two]; exact val_lt ha.lims)
  have hN := bl_self (val xs)
  rw [hk, Nat.pow_add] at hN
  have hU : val xs / 2 ^ k < 18446744073709551616 := by rw [Nat.div_lt_iff_lt_mul (Nat.two_pow_pos k), Nat.mul_comm]; exact hN
  have hVU : val ys / 2 ^ k ≤ val xs / 2 ^ k := Nat.div_le_div_right hle
  obtain ⟨U, hUd⟩ : ∃ U, U = val xs / 2 ^ k := ⟨_, rfl⟩
  obtain ⟨V, hVd⟩ : ∃ V, V = val ys / 2 ^ k := ⟨_, rfl⟩
  rw [← hUd, ← hVd] at hVU
  rw [← hUd] at hU
  have hwU : Hid (val xs / 2 ^ k % 18446744073709551616 = U) := by show _ = _; rw [← hUd]; exact Nat.mod_eq_of_lt hU
  have hwV : Hid (val ys / 2 ^ k % 18446744073709551616 = V) := by show _ = _; rw [← hVd]; exact Nat.mod_eq_of_lt (by omega)
  have eX : Hid (val xs = U * 2 ^ k + val xs % 2 ^ k) := by show _ = _; rw [hUd, Nat.mul_comm]; exact (Nat.div_add_mod _ _).symm
  have eY : Hid (val ys = V * 2 ^ k + val ys % 2 ^ k) := by show _ = _; rw [hVd, Nat.mul_comm]; exact (Nat.div_add_mod _ _).symm
  have hk1 : k ≤ 32 * xs.length := by omega
  have K := Lib.hid hk
  have hUb : (U : Int) ≤ 18446744073709551615 := by omega
  clear hk hN hbl2 hbits hUd hVd
  go_enter Tryd.func35, Tryd.ntmps35
  go_wp2_with fail
  refine (Bits_any _ _ _ _ (ha.alloc _) (by omega)).mono ?_; rintro e w' ⟨rfl, rfl⟩
  rw [K.out]
  go_wp2_with fail
  refine (window_any _ _ k (k / 32) (k % 32) _ _ (ha.alloc _) (by omega) (by omega) (by omega)).mono ?_; rintro e w1 ⟨rfl, b1⟩
  rw [hwU.out]
  go_wp2_with fail
  refine (window_any _ _ k (k / 32) (k % 32) _ _ ((hb.alloc _).below b1) (by omega) (by omega) (by omega)).mono ?_; rintro e w2 ⟨rfl, b2⟩
  rw [hwV.out]
  go_wp2_with fail
  have hs1 := b1.size
  have hs2 := b2.size
  rw [World.size_alloc] at hs1
  have B1 : Below w.heap.size w w1 := (below_new w _).trans (b1.mono (by simp))
  have B2 : Below w.heap.size w w2 := B1.trans (b2.mono (by omega))
  have hg : w.heap.size ≠ w2.heap.size := by omega
  have hr0 : Blk w2 w.heap.size (cof 0 0 0 0 false) := ((Blk.new w (cof 0 0 0 0 false)).below b1 (by simp)).below b2 (by omega)
  have hr1 := hr0.below (below_new w2 (.cells (cof 0 1 0 0 true).toArray 53)) (by omega)
  have hc0 := Blk.new w2 (cof 0 1 0 0 true)
  have B3 := B2.trans ((below_new w2 (.cells (cof 0 1 0 0 true).toArray 53)).mono B2.size)
  obtain ⟨g, hgd⟩ : ∃ g, g = w2.heap.size := ⟨_, rfl⟩
  rw [← hgd] at hg hc0 ⊢
  have hgw : w.heap.size ≤ g := by omega
  clear hgd b1 b2 hs1 hs2 B1 B2 hr0
  go_loopw [6, 7, 9, 10] (fun s6 s7 s9 s10 wr => ∃ (u v x0 x1 x2 y0 y1 y2 : Nat) (s : Bool), s6 = .int .u64 u ∧ s7 = .int .u64 v ∧ s9 = .int .u64 x2 ∧ s10 = .int .u64 y2 ∧ Hid (LInv U V u v x1 x2 y1 y2 s) ∧ Hid (LOut (val xs) (val ys) x0 x1 y0 y1 (!s)) ∧
      Blk wr g (cof x0 x1 y0 y1 s) ∧ Blk wr w.heap.size (cof 0 0 0 0 false) ∧ Below w.heap.size w wr) (fun _ s7 _ _ _ => (intOf s7).toNat)
  case atStart => exact ⟨U, V, 0, 1, 0, 0, 0, 1, true, rfl, rfl, rfl, rfl, LInv.start hVU hU, LOut.start _ _ _, hc0, hr1, B3⟩
  case round =>
    obtain ⟨u, v, x0, x1, x2, y0, y1, y2, s, rfl, rfl, rfl, rfl, hI, hO, hbc, hbr, hbl⟩ := hrel
    have hvu := hI.out.hle
    have huU := hI.out.u_le
    have hy12 := hI.out.y12
    have hy2p := hI.out.y2p
    obtain ⟨c0, c1, c2, c3, c4, f0, f1, f2, f3, f4⟩ := hbc.cells
    obtain ⟨r0, r1, r2, r3, r4, e0, e1, e2, e3, e4⟩ := hbr.cells
    by_cases hc1 : y2 ≤ v
    · have hsum := (hI.out.sum_lt hc1).1
      by_cases hc2 : y1 + y2 ≤ u - v
      · have hn := hI.out.next_lt (show 0 < v by omega)
        have hst := hI.out.step (show 0 < v by omega)
        have hout := hI.out.out hc1 hc2 (2 ^ k) _ _ (Nat.mod_lt (val xs) (Nat.two_pow_pos k)) (Nat.mod_lt (val ys) (Nat.two_pow_pos k))
        rw [← eX.out, ← eY.out] at hout
        obtain ⟨q, hq⟩ : ∃ q, q = u / v := ⟨_, rfl⟩
        obtain ⟨r, hr⟩ : ∃ r, r = u % v := ⟨_, rfl⟩
        rw [← hq] at hn hst
        rw [← hr] at hst
        obtain ⟨px, hpx⟩ : ∃ z, z = q * x2 := ⟨_, rfl⟩
        obtain ⟨py, hpy⟩ : ∃ z, z = q * y2 := ⟨_, rfl⟩
        rw [← hpx, ← hpy] at hn hst
        obtain ⟨nx, hnx⟩ : ∃ z, z = x1 + px := ⟨_, rfl⟩
        obtain ⟨ny, hny⟩ : ∃ z, z = y1 + py := ⟨_, rfl⟩
        rw [← hnx, ← hny] at hn hst
        have hqu : q ≤ u := by rw [hq]; exact Nat.div_le_self _ _
        have hrv : r < v := by rw [hr]; exact Nat.mod_lt _ (by omega)
        have w1' : IntKind.u64.wrap ((u : Int) / (v : Int)) = (q : Int) := wrap_nat (by rw [hq]; exact (Int.natCast_ediv u v).symm) (by omega)
        have w2' : (u : Int) % (v : Int) = (r : Int) := by rw [hr]; exact (Int.natCast_emod u v).symm
        have w3 : IntKind.u64.wrap ((q : Int) * (x2 : Int)) = (px : Int) := wrap_nat (by rw [hpx]; exact (Int.natCast_mul q x2).symm) (by omega)
        have w4 : IntKind.u64.wrap ((q : Int) * (y2 : Int)) = (py : Int) := wrap_nat (by rw [hpy]; exact (Int.natCast_mul q y2).symm) (by omega)
        have w5 : IntKind.u64.wrap ((x1 : Int) + (px : Int)) = (nx : Int) := wrap_nat (by omega) (by omega)
        have w6 : IntKind.u64.wrap ((y1 : Int) + (py : Int)) = (ny : Int) := wrap_nat (by omega) (by omega)
        have hvz : ((v : Int) == 0) = false := beq_eq_false_iff_ne.2 (by omega)
        have HS := Lib.hid hst
        have HO := Lib.hid hout
        have hc2i : (y1 : Int) + (y2 : Int) ≤ (u : Int) - (v : Int) := by omega
        have W2 := Lib.hid w2'
        clear hst hout hq hr hpx hpy hnx hny hc2 w2'
        go_wp2_with fail
        go_quiet (fail)
        go_wp2_with fail
        have n0 := ((((((hbc.drewN nq).set 0 (.int .u64 (x1 : Int))).set 1 (.int .u64 (x2 : Int))).set 2 (.int .u64 (y1 : Int))).set 3 (.int .u64 (y2 : Int))).set 4 (.bool (!s)))
        have n1 := ((((((hbr.drewN nq).other hg.symm (j := 0) (.int .u64 (x1 : Int))).other hg.symm (j := 1) (.int .u64 (x2 : Int))).other hg.symm (j := 2) (.int .u64 (y1 : Int))).other hg.symm (j := 3) (.int .u64 (y2 : Int))).other hg.symm (j := 4) (.bool (!s)))
        go_roundw
        case rel => exact ⟨v, r, x1, x2, nx, y1, y2, ny, !s, rfl, by rw [W2.out], rfl, rfl, HS.out, by rw [Bool.not_not]; exact HO.out, n0, n1, ((((((below_drewN hbl nq).setCell hgw _).setCell hgw _).setCell hgw _).setCell hgw _).setCell hgw _)⟩
        case measure => rw [W2.out]; simp [intOf]; omega
      · have hc2i : ¬ (y1 : Int) + (y2 : Int) ≤ (u : Int) - (v : Int) := by omega
        clear hc2
        go_wp2_with fail
        have R := ((((hbr.set 0 (.int .u64 (x0 : Int))).set 1 (.int .u64 (x1 : Int))).set 2 (.int .u64 (y0 : Int))).set 3 (.int .u64 (y1 : Int))).set 4 (.bool s)
        obtain ⟨q0, q1, q2, q3, q4, _⟩ := Blk.cells (x0 := x0) (x1 := x1) (y0 := y0) (y1 := y1) (s := s) R
        refine bodyPost_ret (v := .agg #[.int .u64 (x0 : Int), .int .u64 (x1 : Int), .int .u64 (y0 : Int), .int .u64 (y1 : Int), .bool s]) (by simp [results, Tryd.results35, go_sem, q0, q1, q2, q3, q4]) rfl ?_
        exact ⟨x0, x1, y0, y1, s, rfl, hO.out, ((((hbl.setCell (Nat.le_refl _) _).setCell (Nat.le_refl _) _).setCell (Nat.le_refl _) _).setCell (Nat.le_refl _) _).setCell (Nat.le_refl _) _⟩
    · go_wp2_with fail
      have R := ((((hbr.set 0 (.int .u64 (x0 : Int))).set 1 (.int .u64 (x1 : Int))).set 2 (.int .u64 (y0 : Int))).set 3 (.int .u64 (y1 : Int))).set 4 (.bool s)
      obtain ⟨q0, q1, q2, q3, q4, _⟩ := Blk.cells (x0 := x0) (x1 := x1) (y0 := y0) (y1 := y1) (s := s) R
      refine bodyPost_ret (v := .agg #[.int .u64 (x0 : Int), .int .u64 (x1 : Int), .int .u64 (y0 : Int), .int .u64 (y1 : Int), .bool s]) (by simp [results, Tryd.results35, go_sem, q0, q1, q2, q3, q4]) rfl ?_
      exact ⟨x0, x1, y0, y1, s, rfl, hO.out, ((((hbl.setCell (Nat.le_refl _) _).setCell (Nat.le_refl _) _).setCell (Nat.le_refl _) _).setCell (Nat.le_refl _) _).setCell (Nat.le_refl _) _⟩
end Go.Proofs.YtlgcflapgdkghabDoor
