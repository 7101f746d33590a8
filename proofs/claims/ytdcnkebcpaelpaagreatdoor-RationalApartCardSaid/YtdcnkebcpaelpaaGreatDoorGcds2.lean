import Derived.Test.YtdcnkebcpaelpaaGreatDoorGcds
import Derived.Test.YtdcnkebcpaelpaaGreatDoorBits
import Derived.Deep.RegionHeld3
import Derived.Deep.LoopGhost
/- Contract of natural.simulate: Lehmer's cofactors. -/
namespace Go.Proofs.YtdcnkebcpaelpaaGreatDoor
open Go.RowKit

/-- block b holds these cells of a struct of cofactors -/
def Blk (w : World) (b : Nat) (cs : List Value) : Prop := w.heap[b]? = some (.cells cs.toArray 98 (0, 0))
theorem Blk.lt {w : World} {b : Nat} {cs : List Value} (h : Blk w b cs) : b < w.heap.size := (Array.getElem?_eq_some_iff.1 h).1
theorem Blk.cell {w : World} {b j : Nat} {cs : List Value} {v : Value} (h : Blk w b cs) (hj : cs[j]? = some v) : w.cell? ⟨b, j, none⟩ = some v := by
  unfold Blk at h
  simp [World.cell?, h, hj]
theorem Blk.frozen {w : World} {b : Nat} {cs : List Value} (h : Blk w b cs) (j : Nat) : w.frozen? ⟨b, j, none⟩ = false := by
  unfold Blk at h
  simp [World.frozen?, h]
theorem Blk.set {w : World} {b : Nat} {cs : List Value} (h : Blk w b cs) (j : Nat) (v : Value) : Blk (w.setCell ⟨b, j, none⟩ v) b (cs.set j v) := by
  unfold Blk at h ⊢
  simp [World.setCell, Array.getElem?_modify, h]
theorem Blk.other {w : World} {b b' j : Nat} {cs : List Value} (h : Blk w b cs) (hne : b' ≠ b) (v : Value) : Blk (w.setCell ⟨b', j, none⟩ v) b cs := by
  unfold Blk at h ⊢
  rw [← h]; exact Below.heap_setCell _ _ _ _ (fun e => hne (by rw [e]))
theorem Blk.below {B : Nat} {w w' : World} {b : Nat} {cs : List Value} (h : Blk w b cs) (hb : Below B w w') (hB : b < B) : Blk w' b cs := (hb.block b hB).trans h
theorem Blk.new (w : World) (cs : List Value) : Blk (w.alloc (.cells cs.toArray 98)) w.heap.size cs := heap_alloc_new w _

theorem Blk.drewN {w : World} {b : Nat} {cs : List Value} (h : Blk w b cs) (n : Nat) : Blk (w.drewN n) b cs := h
/-- the five fields -/
def cof (x0 x1 y0 y1 : Nat) (s : Bool) : List Value := [.int .u64 (x0 : Int), .int .u64 (x1 : Int), .int .u64 (y0 : Int), .int .u64 (y1 : Int), .bool s]
theorem Blk.cells {w : World} {b x0 x1 y0 y1 : Nat} {s : Bool} (h : Blk w b (cof x0 x1 y0 y1 s)) :
    w.cell? ⟨b, 0, none⟩ = some (.int .u64 (x0 : Int)) ∧ w.cell? ⟨b, 1, none⟩ = some (.int .u64 (x1 : Int)) ∧ w.cell? ⟨b, 2, none⟩ = some (.int .u64 (y0 : Int)) ∧ w.cell? ⟨b, 3, none⟩ = some (.int .u64 (y1 : Int)) ∧ w.cell? ⟨b, 4, none⟩ = some (.bool s) ∧
      w.frozen? ⟨b, 0, none⟩ = false ∧ w.frozen? ⟨b, 1, none⟩ = false ∧ w.frozen? ⟨b, 2, none⟩ = false ∧ w.frozen? ⟨b, 3, none⟩ = false ∧ w.frozen? ⟨b, 4, none⟩ = false :=
  ⟨h.cell rfl, h.cell rfl, h.cell rfl, h.cell rfl, h.cell rfl, h.frozen _, h.frozen _, h.frozen _, h.frozen _, h.frozen _⟩
theorem LInv.u_le {U V u v x1 x2 y1 y2 : Nat} {s : Bool} (h : LInv U V u v x1 x2 y1 y2 s) : u ≤ U := by
  have h1 := h.hU
  have h2 : 1 * u ≤ y2 * u := Nat.mul_le_mul_right _ h.y2p
  omega
theorem wrap_nat {e : Int} {n : Nat} (he : e = (n : Int)) (h : n < 18446744073709551616) : IntKind.u64.wrap e = (n : Int) := by
  rw [he, IntKind.wrap_u64]; omega

/-- what simulate gives -/
def SimPost (N M : Nat) (w : World) (e : Ending) (w' : World) : Prop :=
  ∃ (x0 x1 y0 y1 : Nat) (s : Bool), e = .returned (.agg #[.int .u64 (x0 : Int), .int .u64 (x1 : Int), .int .u64 (y0 : Int), .int .u64 (y1 : Int), .bool s]) ∧ LOut N M x0 x1 y0 y1 (!s) ∧ Below w.heap.size w w'

set_option maxHeartbeats 4000000 in
set_option maxRecDepth 100000 in
theorem simulate_any (ao bo : Option Addr) (ca cb : Nat) (xs ys : List Nat) (w : World) (ha : Rd w ao ca xs) (hb : Rd w bo cb ys) (hx : xs.length ≤ 549755813888) (hle : val ys ≤ val xs) (hbits : 65 ≤ bl (val xs)) :
    Calls Tryz.prog 78 #[.slice ao xs.length ca, .slice bo ys.length cb] w (SimPost (val xs) (val ys) w) := by
  have hma := ha.max
  have hla := ha.le
  have hmb := hb.max
  have hlb := hb.le
  obtain ⟨k, hk⟩ : ∃ k, bl (val xs) = k + 64 := ⟨bl (val xs) - 64, by omega⟩
  have hbl2 : bl (val xs) ≤ 32 * xs.length := bl_le.2 (by rw [← pw_two]; exact val_lt ha.lims)
  have hN := bl_self (val xs)
  rw [hk, Nat.pow_add] at hN
  have hU : val xs / 2 ^ k < 18446744073709551616 := by rw [Nat.div_lt_iff_lt_mul (Nat.two_pow_pos k), Nat.mul_comm]; exact hN
  have hVU : val ys / 2 ^ k ≤ val xs / 2 ^ k := Nat.div_le_div_right hle
  obtain ⟨U, hUd⟩ : ∃ U, U = val xs / 2 ^ k := ⟨_, rfl⟩
  obtain ⟨V, hVd⟩ : ∃ V, V = val ys / 2 ^ k := ⟨_, rfl⟩
  rw [← hUd, ← hVd] at hVU
  rw [← hUd] at hU
  have hwU : Hid (val xs / 2 ^ k % 18446744073709551616 = U) := by show _ = _; rw [← hUd]; exact Nat.mod_eq_of_lt hU
  have hwV : Hid (val ys / 2 ^ k % 18446744073709551616 = V) := by show _ = _; rw [← hVd]; exact Nat.mod_eq_of_lt (by omega)
  have eX : Hid (val xs = U * 2 ^ k + val xs % 2 ^ k) := by show _ = _; rw [hUd, Nat.mul_comm]; exact (Nat.div_add_mod _ _).symm
  have eY : Hid (val ys = V * 2 ^ k + val ys % 2 ^ k) := by show _ = _; rw [hVd, Nat.mul_comm]; exact (Nat.div_add_mod _ _).symm
  have hk1 : k ≤ 32 * xs.length := by omega
  have K := Lib.hid hk
  have hUb : (U : Int) ≤ 18446744073709551615 := by omega
  clear hk hN hbl2 hbits hUd hVd
  go_enter Tryz.func78, Tryz.ntmps78
  go_wp2_with fail
  refine (Bits_any _ _ _ _ (ha.alloc _) (by omega)).mono ?_; rintro e w' ⟨rfl, rfl⟩
  rw [K.out]
  go_wp2_with fail
  refine (window_any _ _ k (k / 32) (k % 32) _ _ (ha.alloc _) (by omega) (by omega) (by omega)).mono ?_; rintro e w1 ⟨rfl, b1⟩
  rw [hwU.out]
  go_wp2_with fail
  refine (window_any _ _ k (k / 32) (k % 32) _ _ ((hb.alloc _).below b1) (by omega) (by omega) (by omega)).mono ?_; rintro e w2 ⟨rfl, b2⟩
  rw [hwV.out]
  go_wp2_with fail
  have hs1 := b1.size
  have hs2 := b2.size
  rw [World.size_alloc] at hs1
  have B1 : Below w.heap.size w w1 := (below_new w _).trans (b1.mono (by simp))
  have B2 : Below w.heap.size w w2 := B1.trans (b2.mono (by omega))
  have hg : w.heap.size ≠ w2.heap.size := by omega
  have hr0 : Blk w2 w.heap.size (cof 0 0 0 0 false) := ((Blk.new w (cof 0 0 0 0 false)).below b1 (by simp)).below b2 (by omega)
  have hr1 := hr0.below (below_new w2 (.cells (cof 0 1 0 0 true).toArray 98)) (by omega)
  have hc0 := Blk.new w2 (cof 0 1 0 0 true)
  have B3 := B2.trans ((below_new w2 (.cells (cof 0 1 0 0 true).toArray 98)).mono B2.size)
  obtain ⟨g, hgd⟩ : ∃ g, g = w2.heap.size := ⟨_, rfl⟩
  rw [← hgd] at hg hc0 ⊢
  have hgw : w.heap.size ≤ g := by omega
  clear hgd b1 b2 hs1 hs2 B1 B2 hr0
  go_loopw [6, 7, 9, 10] (fun s6 s7 s9 s10 wr => ∃ (u v x0 x1 x2 y0 y1 y2 : Nat) (s : Bool), s6 = .int .u64 u ∧ s7 = .int .u64 v ∧ s9 = .int .u64 x2 ∧ s10 = .int .u64 y2 ∧ Hid (LInv U V u v x1 x2 y1 y2 s) ∧ Hid (LOut (val xs) (val ys) x0 x1 y0 y1 (!s)) ∧
      Blk wr g (cof x0 x1 y0 y1 s) ∧ Blk wr w.heap.size (cof 0 0 0 0 false) ∧ Below w.heap.size w wr) (fun _ s7 _ _ _ => (intOf s7).toNat)
  case atStart => exact ⟨U, V, 0, 1, 0, 0, 0, 1, true, rfl, rfl, rfl, rfl, LInv.start hVU hU, LOut.start _ _ _, hc0, hr1, B3⟩
  case round =>
    obtain ⟨u, v, x0, x1, x2, y0, y1, y2, s, rfl, rfl, rfl, rfl, hI, hO, hbc, hbr, hbl⟩ := hrel
    have hvu := hI.out.hle
    have huU := hI.out.u_le
    have hy12 := hI.out.y12
    have hy2p := hI.out.y2p
    obtain ⟨c0, c1, c2, c3, c4, f0, f1, f2, f3, f4⟩ := hbc.cells
    obtain ⟨r0, r1, r2, r3, r4, e0, e1, e2, e3, e4⟩ := hbr.cells
    by_cases hc1 : y2 ≤ v
    · have hsum := (hI.out.sum_lt hc1).1
      by_cases hc2 : y1 + y2 ≤ u - v
      · have hn := hI.out.next_lt (show 0 < v by omega)
        have hst := hI.out.step (show 0 < v by omega)
        have hout := hI.out.out hc1 hc2 (2 ^ k) _ _ (Nat.mod_lt (val xs) (Nat.two_pow_pos k)) (Nat.mod_lt (val ys) (Nat.two_pow_pos k))
        rw [← eX.out, ← eY.out] at hout
        obtain ⟨q, hq⟩ : ∃ q, q = u / v := ⟨_, rfl⟩
        obtain ⟨r, hr⟩ : ∃ r, r = u % v := ⟨_, rfl⟩
        rw [← hq] at hn hst
        rw [← hr] at hst
        obtain ⟨px, hpx⟩ : ∃ z, z = q * x2 := ⟨_, rfl⟩
        obtain ⟨py, hpy⟩ : ∃ z, z = q * y2 := ⟨_, rfl⟩
        rw [← hpx, ← hpy] at hn hst
        obtain ⟨nx, hnx⟩ : ∃ z, z = x1 + px := ⟨_, rfl⟩
        obtain ⟨ny, hny⟩ : ∃ z, z = y1 + py := ⟨_, rfl⟩
        rw [← hnx, ← hny] at hn hst
        have hqu : q ≤ u := by rw [hq]; exact Nat.div_le_self _ _
        have hrv : r < v := by rw [hr]; exact Nat.mod_lt _ (by omega)
        have w1' : IntKind.u64.wrap ((u : Int) / (v : Int)) = (q : Int) := wrap_nat (by rw [hq]; exact (Int.natCast_ediv u v).symm) (by omega)
        have w2' : (u : Int) % (v : Int) = (r : Int) := by rw [hr]; exact (Int.natCast_emod u v).symm
        have w3 : IntKind.u64.wrap ((q : Int) * (x2 : Int)) = (px : Int) := wrap_nat (by rw [hpx]; exact (Int.natCast_mul q x2).symm) (by omega)
        have w4 : IntKind.u64.wrap ((q : Int) * (y2 : Int)) = (py : Int) := wrap_nat (by rw [hpy]; exact (Int.natCast_mul q y2).symm) (by omega)
        have w5 : IntKind.u64.wrap ((x1 : Int) + (px : Int)) = (nx : Int) := wrap_nat (by omega) (by omega)
        have w6 : IntKind.u64.wrap ((y1 : Int) + (py : Int)) = (ny : Int) := wrap_nat (by omega) (by omega)
        have hvz : ((v : Int) == 0) = false := beq_eq_false_iff_ne.2 (by omega)
        have HS := Lib.hid hst
        have HO := Lib.hid hout
        have hc2i : (y1 : Int) + (y2 : Int) ≤ (u : Int) - (v : Int) := by omega
        have W2 := Lib.hid w2'
        clear hst hout hq hr hpx hpy hnx hny hc2 w2'
        go_wp2_with fail
        go_quiet (fail)
        go_wp2_with fail
        have n0 := ((((((hbc.drewN nq).set 0 (.int .u64 (x1 : Int))).set 1 (.int .u64 (x2 : Int))).set 2 (.int .u64 (y1 : Int))).set 3 (.int .u64 (y2 : Int))).set 4 (.bool (!s)))
        have n1 := ((((((hbr.drewN nq).other hg.symm (j := 0) (.int .u64 (x1 : Int))).other hg.symm (j := 1) (.int .u64 (x2 : Int))).other hg.symm (j := 2) (.int .u64 (y1 : Int))).other hg.symm (j := 3) (.int .u64 (y2 : Int))).other hg.symm (j := 4) (.bool (!s)))
        go_roundw
        case rel => exact ⟨v, r, x1, x2, nx, y1, y2, ny, !s, rfl, by rw [W2.out], rfl, rfl, HS.out, by rw [Bool.not_not]; exact HO.out, n0, n1, ((((((below_drewN hbl nq).setCell hgw _).setCell hgw _).setCell hgw _).setCell hgw _).setCell hgw _)⟩
        case measure => rw [W2.out]; simp [intOf]; omega
      · have hc2i : ¬ (y1 : Int) + (y2 : Int) ≤ (u : Int) - (v : Int) := by omega
        clear hc2
        go_wp2_with fail
        have R := ((((hbr.set 0 (.int .u64 (x0 : Int))).set 1 (.int .u64 (x1 : Int))).set 2 (.int .u64 (y0 : Int))).set 3 (.int .u64 (y1 : Int))).set 4 (.bool s)
        obtain ⟨q0, q1, q2, q3, q4, _⟩ := Blk.cells (x0 := x0) (x1 := x1) (y0 := y0) (y1 := y1) (s := s) R
        refine bodyPost_ret (v := .agg #[.int .u64 (x0 : Int), .int .u64 (x1 : Int), .int .u64 (y0 : Int), .int .u64 (y1 : Int), .bool s]) (by simp [results, Tryz.results78, go_sem, q0, q1, q2, q3, q4]) rfl ?_
        exact ⟨x0, x1, y0, y1, s, rfl, hO.out, ((((hbl.setCell (Nat.le_refl _) _).setCell (Nat.le_refl _) _).setCell (Nat.le_refl _) _).setCell (Nat.le_refl _) _).setCell (Nat.le_refl _) _⟩
    · go_wp2_with fail
      have R := ((((hbr.set 0 (.int .u64 (x0 : Int))).set 1 (.int .u64 (x1 : Int))).set 2 (.int .u64 (y0 : Int))).set 3 (.int .u64 (y1 : Int))).set 4 (.bool s)
      obtain ⟨q0, q1, q2, q3, q4, _⟩ := Blk.cells (x0 := x0) (x1 := x1) (y0 := y0) (y1 := y1) (s := s) R
      refine bodyPost_ret (v := .agg #[.int .u64 (x0 : Int), .int .u64 (x1 : Int), .int .u64 (y0 : Int), .int .u64 (y1 : Int), .bool s]) (by simp [results, Tryz.results78, go_sem, q0, q1, q2, q3, q4]) rfl ?_
      exact ⟨x0, x1, y0, y1, s, rfl, hO.out, ((((hbl.setCell (Nat.le_refl _) _).setCell (Nat.le_refl _) _).setCell (Nat.le_refl _) _).setCell (Nat.le_refl _) _).setCell (Nat.le_refl _) _⟩
end Go.Proofs.YtdcnkebcpaelpaaGreatDoor
/- Contracts of package natural: reduce and GCD. -/
namespace Go.Proofs.YtdcnkebcpaelpaaGreatDoor
open Go.RowKit

theorem sim_num {ao bo : Option Addr} {n m ca cb N M : Nat} {w : World} (ha : Num w ao n ca N) (hb : Num w bo m cb M) (hle : M ≤ N) (hbits : 65 ≤ bl N) : Calls Tryz.prog 78 #[.slice ao n ca, .slice bo m cb] w (SimPost N M w) := by
  obtain ⟨xs, rfl, h1, rfl, h2⟩ := ha
  obtain ⟨ys, rfl, h3, rfl, h4⟩ := hb
  exact simulate_any ao bo ca cb xs ys w h1 h3 h2 hle hbits
theorem diff_num {ao bo : Option Addr} {n m ca cb N M p q D : Nat} {w : World} (ha : Num w ao n ca N) (hb : Num w bo m cb M) (hp : p < 4294967296) (hq : q < 4294967296) (hD : p * N = D + q * M) (hDx : D ≤ N ∨ D ≤ M) :
    Calls Tryz.prog 79 #[.int .u64 (p : Int), .slice ao n ca, .int .u64 (q : Int), .slice bo m cb] w (Makes D w) := by
  obtain ⟨xs, rfl, h1, rfl, h2⟩ := ha
  obtain ⟨ys, rfl, h3, rfl, h4⟩ := hb
  exact difference_any ao bo ca cb p q D xs ys w h1 h3 h2 h4 hp hq hD hDx

/-- what reduce gives: a later pair of Euclid's algorithm -/
def RedPost (B N M : Nat) (w : World) (e : Ending) (w' : World) : Prop :=
  ∃ P Q ao1 c1 ao2 c2, e = .returned (.tuple #[.slice ao1 (dig P).length c1, .slice ao2 (dig Q).length c2]) ∧ Fr B w' ao1 c1 (dig P) ∧ Fr B w' ao2 c2 (dig Q) ∧ Below w.heap.size w w' ∧ Nat.gcd P Q = Nat.gcd N M ∧ Q < M ∧ Q ≤ P ∧ P ≤ N

theorem keep4 {w0 W W1 : World} {g : Nat} {v0 v1 v2 v3 : Value} (b : Below W.heap.size W W1) (hg : g < w0.heap.size) (h : Below w0.heap.size w0 W) (h0 : W.cell? ⟨g, 0, none⟩ = some v0) (h1 : W.cell? ⟨g, 1, none⟩ = some v1) (h2 : W.cell? ⟨g, 2, none⟩ = some v2) (h3 : W.cell? ⟨g, 3, none⟩ = some v3) :
    W1.cell? ⟨g, 0, none⟩ = some v0 ∧ W1.cell? ⟨g, 1, none⟩ = some v1 ∧ W1.cell? ⟨g, 2, none⟩ = some v2 ∧ W1.cell? ⟨g, 3, none⟩ = some v3 ∧ Below w0.heap.size w0 W1 := by
  have hl := Nat.lt_of_lt_of_le hg h.size
  exact ⟨(b.cell (p := ⟨g, 0, none⟩) hl).trans h0, (b.cell (p := ⟨g, 1, none⟩) hl).trans h1, (b.cell (p := ⟨g, 2, none⟩) hl).trans h2, (b.cell (p := ⟨g, 3, none⟩) hl).trans h3, h.trans (b.mono h.size)⟩
theorem Below.drawn {w W : World} (h : Below w.heap.size w W) (n : Nat) : Below w.heap.size w (W.drewN n) := below_drewN h n

set_option maxHeartbeats 4000000 in
set_option maxRecDepth 100000 in
theorem reduce_any (B : Nat) (ao bo : Option Addr) (ca cb N M k : Nat) (w : World) (ha : Fr B w ao ca (dig N)) (hb : Fr B w bo cb (dig M)) (hN : 65 ≤ bl N) (hM : 0 < M) (hle : M ≤ N) (hs : Sm N k) (hB : B ≤ w.heap.size) :
    Calls Tryz.prog 59 #[.slice ao (dig N).length ca, .slice bo (dig M).length cb] w (RedPost B N M w) := by
  have na := Num.of_fr ha hs
  have nb := Num.of_fr hb (Sm.of_le hs hle)
  go_enter Tryz.func59, Tryz.ntmps59
  go_wp2_with fail
  refine (sim_num na nb hle hN).mono ?_; rintro e w1 ⟨x0, x1, y0, y1, s, rfl, hout, b1⟩
  replace na := na.below b1
  replace nb := nb.below b1
  replace ha := ha.below b1
  replace hb := hb.below b1
  have hs1 := b1.size
  obtain ⟨hx0, hx1, hy0, hy1, hrel⟩ := hout
  have bn := below_new w1 (.cells #[.int .u64 (x0 : Int), .int .u64 (x1 : Int), .int .u64 (y0 : Int), .int .u64 (y1 : Int), .bool s] 98)
  have hblk : Blk (w1.alloc (.cells #[.int .u64 (x0 : Int), .int .u64 (x1 : Int), .int .u64 (y0 : Int), .int .u64 (y1 : Int), .bool s] 98)) w1.heap.size (cof x0 x1 y0 y1 s) := Blk.new w1 (cof x0 x1 y0 y1 s)
  obtain ⟨c0, c1, c2, c3, c4, _⟩ := hblk.cells
  replace na := na.below bn
  replace nb := nb.below bn
  replace ha := ha.below bn
  replace hb := hb.below bn
  have B1 := b1.trans (bn.mono hs1)
  clear bn b1
  rcases Nat.eq_zero_or_pos y0 with hz | hp
  · subst hz
    clear hrel hblk
    have hQ : N % M < M := Nat.mod_lt _ hM
    have s_r : Sm (N % M) k := Sm.of_le hs (Nat.mod_le _ _)
    have hg : Hid (Nat.gcd M (N % M) = Nat.gcd N M) := by show _ = _; rw [Nat.gcd_comm M, ← Nat.gcd_rec, Nat.gcd_comm]
    go_wp2_with fail
    refine (Divide_num na nb hM).mono ?_; rintro e w3 ⟨qo, qc, ro, rc, rfl, f_q, f_r, b3⟩
    go_wp2_with fail
    go_ret2
    exact ⟨M, N % M, _, _, _, _, rfl, hb.below b3, f_r.mono (Nat.le_trans hB B1.size), B1.trans (b3.mono B1.size), hg.out, hQ, Nat.le_of_lt hQ, hle⟩
  · have hd : ((y0 : Int) == 0) = false := beq_eq_false_iff_ne.2 (by omega)
    obtain ⟨P, Q, hR, hQP, hPM, hQM⟩ := hrel hp
    have hgcd := Lib.hid hR.gcd
    clear hrel
    have hPN : P ≤ N := Nat.le_trans hPM hle
    have hB2 := Nat.le_trans hB B1.size
    cases s
    · simp only [Rel, Bool.not_false, if_true] at hR
      obtain ⟨r1, r2, _⟩ := hR
      have k1 : ∀ W, Below (w1.alloc (.cells #[.int .u64 (x0 : Int), .int .u64 (x1 : Int), .int .u64 (y0 : Int), .int .u64 (y1 : Int), .bool false] 98)).heap.size (w1.alloc (.cells #[.int .u64 (x0 : Int), .int .u64 (x1 : Int), .int .u64 (y0 : Int), .int .u64 (y1 : Int), .bool false] 98)) W → Calls Tryz.prog 79 #[.int .u64 (x0 : Int), .slice ao (dig N).length ca, .int .u64 (y0 : Int), .slice bo (dig M).length cb] W (Makes P W) := fun W h => diff_num (na.below h) (nb.below h) hx0 hy0 r1.symm (.inl hPN)
      have k2 : ∀ W, Below (w1.alloc (.cells #[.int .u64 (x0 : Int), .int .u64 (x1 : Int), .int .u64 (y0 : Int), .int .u64 (y1 : Int), .bool false] 98)).heap.size (w1.alloc (.cells #[.int .u64 (x0 : Int), .int .u64 (x1 : Int), .int .u64 (y0 : Int), .int .u64 (y1 : Int), .bool false] 98)) W → Calls Tryz.prog 79 #[.int .u64 (y1 : Int), .slice bo (dig M).length cb, .int .u64 (x1 : Int), .slice ao (dig N).length ca] W (Makes Q W) := fun W h => diff_num (nb.below h) (na.below h) hy1 hx1 r2.symm (.inl (Nat.le_of_lt hQM))
      have K1 := Lib.hid k1
      have K2 := Lib.hid k2
      have HLT := Lib.hid hblk.lt
      have HB2 := Lib.hid hB2
      clear r1 r2 k1 k2 hblk hB2
      go_wp2_with fail
      clear hx0 hx1 hy0 hy1 hle hM hN
      go_region_held3 (fun w' => w'.cell? ⟨w1.heap.size, 0, none⟩ = some (.int .u64 (x0 : Int)) ∧ w'.cell? ⟨w1.heap.size, 1, none⟩ = some (.int .u64 (x1 : Int)) ∧ w'.cell? ⟨w1.heap.size, 2, none⟩ = some (.int .u64 (y0 : Int)) ∧ w'.cell? ⟨w1.heap.size, 3, none⟩ = some (.int .u64 (y1 : Int)) ∧
          Below (w1.alloc (.cells #[.int .u64 (x0 : Int), .int .u64 (x1 : Int), .int .u64 (y0 : Int), .int .u64 (y1 : Int), .bool false] 98)).heap.size (w1.alloc (.cells #[.int .u64 (x0 : Int), .int .u64 (x1 : Int), .int .u64 (y0 : Int), .int .u64 (y1 : Int), .bool false] 98)) w')
        (first | exact ⟨c0, c1, c2, c3, (Below.refl _ _).drew⟩ | exact keep4 b1' HLT.out (by assumption) (by assumption) (by assumption) (by assumption) (by assumption) | exact keep4 b2' HLT.out (by assumption) (by assumption) (by assumption) (by assumption) (by assumption))
        (first
          | (go_at_call_of 79 (Value.int IntKind.u64 (x0 : Int)); go_split_ands; refine (K1.out _ (by assumption)).mono ?_; rintro e W1 ⟨a1, q1, rfl, f1, b1'⟩)
          | (go_at_call_of 79 (Value.int IntKind.u64 (y1 : Int)); go_split_ands; refine (K2.out _ (by assumption)).mono ?_; rintro e W2 ⟨a2, q2, rfl, f2, b2'⟩))
      go_wp2_with fail
      go_ret2
      exact ⟨P, Q, _, _, _, _, rfl, (f1.below b2').mono HB2.out, f2.mono (Nat.le_trans HB2.out b1'.size), B1.trans ((((Below.refl _ _).drew.trans b1').trans (b2'.mono b1'.size)).mono B1.size), hgcd.out, hQM, Nat.le_of_lt hQP, hPN⟩
    · simp only [Rel, Bool.not_true, Bool.false_eq_true, if_false] at hR
      obtain ⟨r1, r2, _⟩ := hR
      have k1 : ∀ W, Below (w1.alloc (.cells #[.int .u64 (x0 : Int), .int .u64 (x1 : Int), .int .u64 (y0 : Int), .int .u64 (y1 : Int), .bool true] 98)).heap.size (w1.alloc (.cells #[.int .u64 (x0 : Int), .int .u64 (x1 : Int), .int .u64 (y0 : Int), .int .u64 (y1 : Int), .bool true] 98)) W → Calls Tryz.prog 79 #[.int .u64 (y0 : Int), .slice bo (dig M).length cb, .int .u64 (x0 : Int), .slice ao (dig N).length ca] W (Makes P W) := fun W h => diff_num (nb.below h) (na.below h) hy0 hx0 r1.symm (.inl hPM)
      have k2 : ∀ W, Below (w1.alloc (.cells #[.int .u64 (x0 : Int), .int .u64 (x1 : Int), .int .u64 (y0 : Int), .int .u64 (y1 : Int), .bool true] 98)).heap.size (w1.alloc (.cells #[.int .u64 (x0 : Int), .int .u64 (x1 : Int), .int .u64 (y0 : Int), .int .u64 (y1 : Int), .bool true] 98)) W → Calls Tryz.prog 79 #[.int .u64 (x1 : Int), .slice ao (dig N).length ca, .int .u64 (y1 : Int), .slice bo (dig M).length cb] W (Makes Q W) := fun W h => diff_num (na.below h) (nb.below h) hx1 hy1 r2.symm (.inr (Nat.le_of_lt hQM))
      have K1 := Lib.hid k1
      have K2 := Lib.hid k2
      have HLT := Lib.hid hblk.lt
      have HB2 := Lib.hid hB2
      clear r1 r2 k1 k2 hblk hB2
      go_wp2_with fail
      clear hx0 hx1 hy0 hy1 hle hM hN
      go_region_held3 (fun w' => w'.cell? ⟨w1.heap.size, 0, none⟩ = some (.int .u64 (x0 : Int)) ∧ w'.cell? ⟨w1.heap.size, 1, none⟩ = some (.int .u64 (x1 : Int)) ∧ w'.cell? ⟨w1.heap.size, 2, none⟩ = some (.int .u64 (y0 : Int)) ∧ w'.cell? ⟨w1.heap.size, 3, none⟩ = some (.int .u64 (y1 : Int)) ∧
          Below (w1.alloc (.cells #[.int .u64 (x0 : Int), .int .u64 (x1 : Int), .int .u64 (y0 : Int), .int .u64 (y1 : Int), .bool true] 98)).heap.size (w1.alloc (.cells #[.int .u64 (x0 : Int), .int .u64 (x1 : Int), .int .u64 (y0 : Int), .int .u64 (y1 : Int), .bool true] 98)) w')
        (first | exact ⟨c0, c1, c2, c3, (Below.refl _ _).drew⟩ | exact keep4 b1' HLT.out (by assumption) (by assumption) (by assumption) (by assumption) (by assumption) | exact keep4 b2' HLT.out (by assumption) (by assumption) (by assumption) (by assumption) (by assumption))
        (first
          | (go_at_call_of 79 (Value.int IntKind.u64 (y0 : Int)); go_split_ands; refine (K1.out _ (by assumption)).mono ?_; rintro e W1 ⟨a1, q1, rfl, f1, b1'⟩)
          | (go_at_call_of 79 (Value.int IntKind.u64 (x1 : Int)); go_split_ands; refine (K2.out _ (by assumption)).mono ?_; rintro e W2 ⟨a2, q2, rfl, f2, b2'⟩))
      go_wp2_with fail
      go_ret2
      exact ⟨P, Q, _, _, _, _, rfl, (f1.below b2').mono HB2.out, f2.mono (Nat.le_trans HB2.out b1'.size), B1.trans ((((Below.refl _ _).drew.trans b1').trans (b2'.mono b1'.size)).mono B1.size), hgcd.out, hQM, Nat.le_of_lt hQP, hPN⟩
end Go.Proofs.YtdcnkebcpaelpaaGreatDoor
/- Contract of natural.GCD. -/
namespace Go.Proofs.YtdcnkebcpaelpaaGreatDoor
open Go.RowKit

theorem Num.sm {w : World} {ao : Option Addr} {n cap N : Nat} (h : Num w ao n cap N) : ∃ k, Sm N k := by
  obtain ⟨xs, h1, h2, rfl, h4⟩ := h
  exact ⟨xs.length, val_lt h2.lims, h4⟩
theorem Uint_numS {ao : Option Addr} {n ca N : Nat} {w : World} (ha : Num w ao n ca N) (hN : N < 18446744073709551616) : Calls Tryz.prog 60 #[.slice ao n ca] w fun e w' => e = .returned (.tuple #[.int .u64 (N : Int), .bool true]) ∧ w = w' := by
  obtain ⟨xs, rfl, h1, rfl, h2⟩ := ha
  refine (Uint_any ao ca xs w h1).mono ?_
  rintro e w' ⟨rfl, rfl⟩
  rw [fits_yes hN, fitv_yes hN]
  exact ⟨rfl, rfl⟩
theorem big_of_len {P : Nat} (h : 2 < (dig P).length) : 65 ≤ bl P := by
  have h1 : pw 2 ≤ P := by
    rcases Nat.lt_or_ge P (pw 2) with e | e
    · have := dig_length_le P 2 e; omega
    · exact e
  have h2 : 2 ^ 64 ≤ P := by rw [pw_two] at h1; exact h1
  exact bl_lt.2 h2
theorem small_of_len {P : Nat} (h : (dig P).length ≤ 2) : P < 18446744073709551616 := by
  have := val_lt (lims_dig P)
  rw [val_dig] at this
  have h2 := pw_mono h
  have h3 : pw 2 = 18446744073709551616 := by simp [pw]
  omega
theorem pos_of_len {P : Nat} (h : 0 < (dig P).length) : 0 < P := by
  rcases Nat.eq_zero_or_pos P with e | e
  · subst e; simp [dig_zero] at h
  · exact e
theorem zero_of_len {P : Nat} (h : (dig P).length = 0) : P = 0 := by
  rcases Nat.eq_zero_or_pos P with e | e
  · exact e
  · have := dig_length_pos e; omega

/-- the pair in the loop: it has the divisors of the first one -/
def Pair (B G k : Nat) (g : Nat) (s5 s6 : Value) (wr : World) : Prop :=
  ∃ P Q a1 c1 a2 c2, s5 = .slice a1 (dig P).length c1 ∧ s6 = .slice a2 (dig Q).length c2 ∧ Fr B wr a1 c1 (dig P) ∧ Fr B wr a2 c2 (dig Q) ∧ Q ≤ P ∧ Nat.gcd P Q = G ∧ Sm P k ∧ g = Q

set_option maxHeartbeats 4000000 in
set_option maxRecDepth 100000 in
theorem GCD_num {ao bo : Option Addr} {n m ca cb N M : Nat} {w : World} (ha : Num w ao n ca N) (hb : Num w bo m cb M) : Calls Tryz.prog 37 #[.slice ao n ca, .slice bo m cb] w (Makes (Nat.gcd N M) w) := by
  obtain ⟨k1, s1⟩ := ha.sm
  obtain ⟨k2, s2⟩ := hb.sm
  obtain ⟨G, hG⟩ : ∃ G, Nat.gcd N M = G := ⟨_, rfl⟩
  rw [hG]
  have HG := Lib.hid hG
  clear hG
  have hcm : Hid (cmpn N M < 0 ∧ N < M ∨ ¬ cmpn N M < 0 ∧ M ≤ N) := by
    rcases Nat.lt_or_ge N M with h | h
    · left; rw [cmpn_lt h]; exact ⟨by omega, h⟩
    · right
      rcases Nat.eq_or_lt_of_le h with e | e
      · rw [cmpn_eq e.symm]; exact ⟨by omega, h⟩
      · rw [cmpn_gt e]; exact ⟨by omega, h⟩
  obtain ⟨c, hc⟩ : ∃ c, cmpn N M = c := ⟨_, rfl⟩
  rw [hc] at hcm
  have HC := Lib.hid hc
  clear hc
  rcases hcm.out with ⟨hneg, hlt⟩ | ⟨hneg, hle⟩
  · clear hcm
    go_enter Tryz.func37, Tryz.ntmps37
    go_wp2_with fail
    refine (Trim_num ha).mono ?_; rintro e w1 ⟨a1, c1, rfl, f1, b1⟩
    replace hb := hb.below b1
    go_wp2_with fail
    refine (Trim_num hb).mono ?_; rintro e w2 ⟨a2, c2, rfl, f2, b2⟩
    replace f1 := f1.below b2
    have n1 := Num.of_fr f1 s1
    have n2 := Num.of_fr f2 s2
    have f2' := f2.mono b1.size
    have B := b1.trans (b2.mono b1.size)
    go_wp2_with fail
    refine (Compare_num n1 n2).mono ?_; rintro e w' ⟨rfl, rfl⟩
    rw [HC.out]
    go_wp2_with fail
    go_loopg [5, 6] N (fun g s5 s6 wr => Pair w.heap.size G k2 g s5 s6 wr ∧ Below w.heap.size w wr)
    case atStart => exact ⟨⟨M, N, _, _, _, _, rfl, rfl, f2', f1, by omega, by rw [Nat.gcd_comm]; exact HG.out, s2, rfl⟩, B⟩
    case round =>
      obtain ⟨⟨P, Q, x1, y1, x2, y2, rfl, rfl, p1, p2, hQP, hgcd, hsm, hgk⟩, hbl⟩ := hrel
      have GK := Lib.hid hgk
      have GC := Lib.hid hgcd
      have np := Num.of_fr p1 hsm
      have nq := Num.of_fr p2 (Sm.of_le hsm hQP)
      have hlp := p1.1
      have hlq := p2.1
      have hmp := p1.2.1
      have hmq := p2.2.1
      clear hgk hgcd ha hb f1 f2 f2' n1 n2 B
      rcases Nat.eq_zero_or_pos (dig Q).length with h0 | h0
      · have hz := zero_of_len h0
        have hPG : Hid (P = G) := by show _ = _; have := GC.out; rw [hz, Nat.gcd_zero_right] at this; exact this
        have hd : (((dig Q).length : Int) == 0) = true := beq_iff_eq.2 (by omega)
        have H0 := Lib.hid h0
        have hq0 : (((dig Q).length : Nat) : Int) ≤ 0 := by omega
        clear hz h0
        by_cases h3 : 2 < (dig P).length
        all_goals
          go_wp2_with fail
          go_ret
          rw [hPG.out] at p1
          exact ⟨_, _, ret_len (by rw [hPG.out]), p1, hbl⟩
      · have hd : (((dig Q).length : Int) == 0) = false := beq_eq_false_iff_ne.2 (by omega)
        by_cases h3 : 2 < (dig P).length
        · go_wp2_with fail
          refine (reduce_any w.heap.size _ _ _ _ P Q _ wr p1 p2 (big_of_len h3) (pos_of_len h0) hQP hsm hbl.size).mono ?_; rintro e w3 ⟨P', Q', x3, y3, x4, y4, rfl, q1, q2, b3, hg2, hlt2, hle2, hPP⟩
          clear p1 p2
          go_wp2_with fail
          go_roundg Q'
          case measure => rw [GK.out]; exact hlt2
          case rel => exact ⟨⟨P', Q', _, _, _, _, rfl, rfl, q1, q2, hle2, hg2.trans GC.out, Sm.of_le hsm hPP, rfl⟩, hbl.trans (b3.mono hbl.size)⟩
        · have hPb := small_of_len (show (dig P).length ≤ 2 by omega)
          go_wp2_with fail
          refine (Uint_numS np hPb).mono ?_; rintro e w' ⟨rfl, rfl⟩
          go_wp2_with fail
          refine (Uint_numS nq (by omega)).mono ?_; rintro e w' ⟨rfl, rfl⟩
          go_wp2_with fail
          obtain ⟨wo, rfl⟩ : ∃ wo : World, wo = wr := ⟨_, rfl⟩
          go_loopg [7, 9] Q (fun g s7 s9 wi => ∃ u v : Nat, s7 = .int .u64 u ∧ s9 = .int .u64 v ∧ u < 18446744073709551616 ∧ v < 18446744073709551616 ∧ Nat.gcd u v = G ∧ g = v ∧ Below w.heap.size w wi)
          case atStart => exact ⟨P, Q, rfl, rfl, hPb, by omega, GC.out, rfl, hbl⟩
          case round =>
            obtain ⟨u, v, rfl, rfl, hu, hv, hg3, hgv, hbi⟩ := hrel
            have G3 := Lib.hid hg3
            have GV := Lib.hid hgv
            have hui : (u : Int) ≤ 18446744073709551615 := by omega
            have hvi : (v : Int) ≤ 18446744073709551615 := by omega
            clear hg3 hgv hu hv p1 p2 np nq
            rcases Nat.eq_zero_or_pos v with hv0 | hv0
            · subst hv0
              have hUG : Hid (u = G) := by show _ = _; have := G3.out; rw [Nat.gcd_zero_right] at this; exact this
              go_wp2_with fail
              refine (FromUint_any (u : Int) (by omega) hui _).mono ?_; rintro e w4 ⟨a4, c4, rfl, f4, b4⟩
              rw [Int.toNat_natCast, hUG.out] at f4
              go_wp2_with fail
              go_ret
              exact ⟨_, _, ret_len (by rw [hUG.out]), f4.mono hbi.size, hbi.trans (b4.mono hbi.size)⟩
            · have hdv : ((v : Int) != 0) = true := by rw [bne_iff_ne]; omega
              have hdv2 : ((v : Int) == 0) = false := beq_eq_false_iff_ne.2 (by omega)
              have hr : (u : Int) % (v : Int) = ((u % v : Nat) : Int) := (Int.natCast_emod u v).symm
              have HR := Lib.hid hr
              have hrv := Nat.mod_lt u hv0
              clear hr
              go_wp2_with fail
              go_quiet (fail)
              go_wp2_with fail
              go_roundg (u % v)
              case measure => rw [GV.out]; exact hrv
              case rel => exact ⟨v, u % v, rfl, by rw [HR.out], by omega, by omega, by rw [Nat.gcd_comm, ← Nat.gcd_rec, Nat.gcd_comm]; exact G3.out, rfl, below_drewN hbi _⟩
  · clear hcm
    go_enter Tryz.func37, Tryz.ntmps37
    go_wp2_with fail
    refine (Trim_num ha).mono ?_; rintro e w1 ⟨a1, c1, rfl, f1, b1⟩
    replace hb := hb.below b1
    go_wp2_with fail
    refine (Trim_num hb).mono ?_; rintro e w2 ⟨a2, c2, rfl, f2, b2⟩
    replace f1 := f1.below b2
    have n1 := Num.of_fr f1 s1
    have n2 := Num.of_fr f2 s2
    have f2' := f2.mono b1.size
    have B := b1.trans (b2.mono b1.size)
    go_wp2_with fail
    refine (Compare_num n1 n2).mono ?_; rintro e w' ⟨rfl, rfl⟩
    rw [HC.out]
    go_wp2_with fail
    go_loopg [5, 6] M (fun g s5 s6 wr => Pair w.heap.size G k1 g s5 s6 wr ∧ Below w.heap.size w wr)
    case atStart => exact ⟨⟨N, M, _, _, _, _, rfl, rfl, f1, f2', hle, HG.out, s1, rfl⟩, B⟩
    case round =>
      obtain ⟨⟨P, Q, x1, y1, x2, y2, rfl, rfl, p1, p2, hQP, hgcd, hsm, hgk⟩, hbl⟩ := hrel
      have GK := Lib.hid hgk
      have GC := Lib.hid hgcd
      have np := Num.of_fr p1 hsm
      have nq := Num.of_fr p2 (Sm.of_le hsm hQP)
      have hlp := p1.1
      have hlq := p2.1
      have hmp := p1.2.1
      have hmq := p2.2.1
      clear hgk hgcd ha hb f1 f2 f2' n1 n2 B
      rcases Nat.eq_zero_or_pos (dig Q).length with h0 | h0
      · have hz := zero_of_len h0
        have hPG : Hid (P = G) := by show _ = _; have := GC.out; rw [hz, Nat.gcd_zero_right] at this; exact this
        have hd : (((dig Q).length : Int) == 0) = true := beq_iff_eq.2 (by omega)
        have H0 := Lib.hid h0
        have hq0 : (((dig Q).length : Nat) : Int) ≤ 0 := by omega
        clear hz h0
        by_cases h3 : 2 < (dig P).length
        all_goals
          go_wp2_with fail
          go_ret
          rw [hPG.out] at p1
          exact ⟨_, _, ret_len (by rw [hPG.out]), p1, hbl⟩
      · have hd : (((dig Q).length : Int) == 0) = false := beq_eq_false_iff_ne.2 (by omega)
        by_cases h3 : 2 < (dig P).length
        · go_wp2_with fail
          refine (reduce_any w.heap.size _ _ _ _ P Q _ wr p1 p2 (big_of_len h3) (pos_of_len h0) hQP hsm hbl.size).mono ?_; rintro e w3 ⟨P', Q', x3, y3, x4, y4, rfl, q1, q2, b3, hg2, hlt2, hle2, hPP⟩
          clear p1 p2
          go_wp2_with fail
          go_roundg Q'
          case measure => rw [GK.out]; exact hlt2
          case rel => exact ⟨⟨P', Q', _, _, _, _, rfl, rfl, q1, q2, hle2, hg2.trans GC.out, Sm.of_le hsm hPP, rfl⟩, hbl.trans (b3.mono hbl.size)⟩
        · have hPb := small_of_len (show (dig P).length ≤ 2 by omega)
          go_wp2_with fail
          refine (Uint_numS np hPb).mono ?_; rintro e w' ⟨rfl, rfl⟩
          go_wp2_with fail
          refine (Uint_numS nq (by omega)).mono ?_; rintro e w' ⟨rfl, rfl⟩
          go_wp2_with fail
          obtain ⟨wo, rfl⟩ : ∃ wo : World, wo = wr := ⟨_, rfl⟩
          go_loopg [7, 9] Q (fun g s7 s9 wi => ∃ u v : Nat, s7 = .int .u64 u ∧ s9 = .int .u64 v ∧ u < 18446744073709551616 ∧ v < 18446744073709551616 ∧ Nat.gcd u v = G ∧ g = v ∧ Below w.heap.size w wi)
          case atStart => exact ⟨P, Q, rfl, rfl, hPb, by omega, GC.out, rfl, hbl⟩
          case round =>
            obtain ⟨u, v, rfl, rfl, hu, hv, hg3, hgv, hbi⟩ := hrel
            have G3 := Lib.hid hg3
            have GV := Lib.hid hgv
            have hui : (u : Int) ≤ 18446744073709551615 := by omega
            have hvi : (v : Int) ≤ 18446744073709551615 := by omega
            clear hg3 hgv hu hv p1 p2 np nq
            rcases Nat.eq_zero_or_pos v with hv0 | hv0
            · subst hv0
              have hUG : Hid (u = G) := by show _ = _; have := G3.out; rw [Nat.gcd_zero_right] at this; exact this
              go_wp2_with fail
              refine (FromUint_any (u : Int) (by omega) hui _).mono ?_; rintro e w4 ⟨a4, c4, rfl, f4, b4⟩
              rw [Int.toNat_natCast, hUG.out] at f4
              go_wp2_with fail
              go_ret
              exact ⟨_, _, ret_len (by rw [hUG.out]), f4.mono hbi.size, hbi.trans (b4.mono hbi.size)⟩
            · have hdv : ((v : Int) != 0) = true := by rw [bne_iff_ne]; omega
              have hdv2 : ((v : Int) == 0) = false := beq_eq_false_iff_ne.2 (by omega)
              have hr : (u : Int) % (v : Int) = ((u % v : Nat) : Int) := (Int.natCast_emod u v).symm
              have HR := Lib.hid hr
              have hrv := Nat.mod_lt u hv0
              clear hr
              go_wp2_with fail
              go_quiet (fail)
              go_wp2_with fail
              go_roundg (u % v)
              case measure => rw [GV.out]; exact hrv
              case rel => exact ⟨v, u % v, rfl, by rw [HR.out], by omega, by omega, by rw [Nat.gcd_comm, ← Nat.gcd_rec, Nat.gcd_comm]; exact G3.out, rfl, below_drewN hbi _⟩
end Go.Proofs.YtdcnkebcpaelpaaGreatDoor
