/- Contracts of package natural: reduce and GCD. -/
import Derived.Test.YtlgcflapgdkghabDoorGcd3
import Derived.Deep.RegionHeld3
namespace Go.Proofs.YtlgcflapgdkghabDoor
open Go.RowKit

theorem sim_num {ao bo : Option Addr} {n m ca cb N M : Nat} {w : World} (ha : Num w ao n ca N) (hb : Num w bo m cb M) (hle : M ≤ N) (hbits : 65 ≤ bl N) : Calls Tryd.prog 35 #[.slice ao n ca, .slice bo m cb] w (SimPost N M w) := by
  obtain ⟨xs, rfl, h1, rfl, h2⟩ := ha
  obtain ⟨ys, rfl, h3, rfl, h4⟩ := hb
  exact simulate_any ao bo ca cb xs ys w h1 h3 h2 hle hbits
theorem diff_num {ao bo : Option Addr} {n m ca cb N M p q D : Nat} {w : World} (ha : Num w ao n ca N) (hb : Num w bo m cb M) (hp : p < 4294967296) (hq : q < 4294967296) (hD : p * N = D + q * M) (hDx : D ≤ N ∨ D ≤ M) :
    Calls Tryd.prog 36 #[.int .u64 (p : Int), .slice ao n ca, .int .u64 (q : Int), .slice bo m cb] w (Makes D w) := by
  obtain ⟨xs, rfl, h1, rfl, h2⟩ := ha
  obtain ⟨ys, rfl, h3, rfl, h4⟩ := hb
  exact difference_any ao bo ca cb p q D xs ys w h1 h3 h2 h4 hp hq hD hDx

/-- what reduce gives: a later pair of Euclid's algorithm -/
def RedPost (B N M : Nat) (w : World) (e : Ending) (w' : World) : Prop :=
  ∃ P Q ao1 c1 ao2 c2, e = .returned (.tuple #[.slice ao1 (dig P).length c1, .slice ao2 (dig Q).length c2]) ∧ Fr B w' ao1 c1 (dig P) ∧ Fr B w' ao2 c2 (dig Q) ∧ Below w.heap.size w w' ∧ Nat.gcd P Q = Nat.gcd N M ∧ Q < M ∧ Q ≤ P ∧ P ≤ N

theorem keep4 {w0 W W1 : World} {g : Nat} {v0 v1 v2 v3 : Value} (b : Below W.heap.size W W1) (hg : g < w0.heap.size) (h : Below w0.heap.size w0 W) (h0 : W.cell? ⟨g, 0, none⟩ = some v0) (h1 : W.cell? ⟨g, 1, none⟩ = some v1) (h2 : W.cell? ⟨g, 2, none⟩ = some v2) (h3 : W.cell? ⟨g, 3, none⟩ = some v3) :
    W1.cell? ⟨g, 0, none⟩ = some v0 ∧ W1.cell? ⟨g, 1, none⟩ = some v1 ∧ W1.cell? ⟨g, 2, none⟩ = some v2 ∧ W1.cell? ⟨g, 3, none⟩ = some v3 ∧ Below w0.heap.size w0 W1 := by
  have hl := Nat.lt_of_lt_of_le hg h.size
  exact ⟨(b.cell (p := ⟨g, 0, none⟩) hl).trans h0, (b.cell (p := ⟨g, 1, none⟩) hl).trans h1, (b.cell (p := ⟨g, 2, none⟩) hl).trans h2, (b.cell (p := ⟨g, 3, none⟩) hl).trans h3, h.trans (b.mono h.size)⟩
theorem Below.drawn {w W : World} (h : Below w.heap.size w W) (n : Nat) : Below w.heap.size w (W.drewN n) := below_drewN h n

set_option maxHeartbeats 4000000 in
set_option maxRecDepth 100000 in
theorem reduce_any (B : Nat) (ao bo : Option Addr) (ca cb N M k : Nat) (w : World) (ha : Fr B w ao ca (dig N)) (hb : Fr B w bo cb (dig M)) (hN : 65 ≤ bl N) (hM : 0 < M) (hle : M ≤ N) (hs : Sm N k) (hB : B ≤ w.heap.size) :
    Calls Tryd.prog 20 #[.slice ao (dig N).length ca, .slice bo (dig M).length cb] w (RedPost B N M w) := by
  have na := Num.of_fr ha hs
  have nb := Num.of_fr hb (Sm.of_le hs hle)
  go_enter Tryd.func20, Tryd.ntmps20
  go_wp2_with fail
  refine (sim_num na nb hle hN).mono ?_; rintro e w1 ⟨x0, x1, y0, y1, s, rfl, hout, b1⟩
  replace na := na.below b1
  replace nb := nb.below b1
  replace ha := ha.below b1
  replace hb := hb.below b1
  have hs1 := b1.size
  obtain ⟨hx0, hx1, hy0, hy1, hrel⟩ := hout
  have bn := below_new w1 (.cells #[.int .u64 (x0 : Int), .int .u64 (x1 : Int), .int .u64 (y0 : Int), .int .u64 (y1 : Int), .bool s] 53)
  have hblk : Blk (w1.alloc (.cells #[.int .u64 (x0 : Int), .int .u64 (x1 : Int), .int .u64 (y0 : Int), .int .u64 (y1 : Int), .bool s] 53)) w1.heap.size (cof x0 x1 y0 y1 s) := Blk.new w1 (cof x0 x1 y0 y1 s)
  obtain ⟨c0, c1, c2, c3, c4, _⟩ := hblk.cells
  replace na := na.below bn
  replace nb := nb.below bn
  replace ha := ha.below bn
  replace hb := hb.below bn
  have B1 := b1.trans (bn.mono hs1)
  clear bn b1
  rcases Nat.eq_zero_or_pos y0 with hz | hp
  · subst hz
    clear hrel hblk
    have hQ : N % M < M := Nat.mod_lt _ hM
    have s_r : Sm (N % M) k := Sm.of_le hs (Nat.mod_le _ _)
    have hg : Hid (Nat.gcd M (N % M) = Nat.gcd N M) := by show _ = _; rw [Nat.gcd_comm M, ← Nat.gcd_rec, Nat.gcd_comm]
    go_wp2_with fail
    refine (Divide_num na nb hM).mono ?_; rintro e w3 ⟨qo, qc, ro, rc, rfl, f_q, f_r, b3⟩
    go_wp2_with fail
    go_ret2
    exact ⟨M, N % M, _, _, _, _, rfl, hb.below b3, f_r.mono (Nat.le_trans hB B1.size), B1.trans (b3.mono B1.size), hg.out, hQ, Nat.le_of_lt hQ, hle⟩
  · have hd : ((y0 : Int) == 0) = false := beq_eq_false_iff_ne.2 (by omega)
    obtain ⟨P, Q, hR, hQP, hPM, hQM⟩ := hrel hp
    have hgcd := Lib.hid hR.gcd
    clear hrel
    have hPN : P ≤ N := Nat.le_trans hPM hle
    have hB2 := Nat.le_trans hB B1.size
    cases s
    · simp only [Rel, Bool.not_false, if_true] at hR
      obtain ⟨r1, r2, _⟩ := hR
      have k1 : ∀ W, Below (w1.alloc (.cells #[.int .u64 (x0 : Int), .int .u64 (x1 : Int), .int .u64 (y0 : Int), .int .u64 (y1 : Int), .bool false] 53)).heap.size (w1.alloc (.cells #[.int .u64 (x0 : Int), .int .u64 (x1 : Int), .int .u64 (y0 : Int), .int .u64 (y1 : Int), .bool false] 53)) W → Calls Tryd.prog 36 #[.int .u64 (x0 : Int), .slice ao (dig N).length ca, .int .u64 (y0 : Int), .slice bo (dig M).length cb] W (Makes P W) := fun W h => diff_num (na.below h) (nb.below h) hx0 hy0 r1.symm (.inl hPN)
      have k2 : ∀ W, Below (w1.alloc (.cells #[.int .u64 (x0 : Int), .int .u64 (x1 : Int), .int .u64 (y0 : Int), .int .u64 (y1 : Int), .bool false] 53)).heap.size (w1.alloc (.cells #[.int .u64 (x0 : Int), .int .u64 (x1 : Int), .int .u64 (y0 : Int), .int .u64 (y1 : Int), .bool false] 53)) W → Calls Tryd.prog 36 #[.int .u64 (y1 : Int), .slice bo (dig M).length cb, .int .u64 (x1 : Int), .slice ao (dig N).length ca] W (Makes Q W) := fun W h => diff_num (nb.below h) (na.below h) hy1 hx1 r2.symm (.inl (Nat.le_of_lt hQM))
      have K1 := Lib.hid k1
      have K2 := Lib.hid k2
      have HLT := Lib.hid hblk.lt
      have HB2 := Lib.hid hB2
      clear r1 r2 k1 k2 hblk hB2
      go_wp2_with fail
      clear hx0 hx1 hy0 hy1 hle hM hN
      go_region_held3 (fun w' => w'.cell? ⟨w1.heap.size, 0, none⟩ = some (.int .u64 (x0 : Int)) ∧ w'.cell? ⟨w1.heap.size, 1, none⟩ = some (.int .u64 (x1 : Int)) ∧ w'.cell? ⟨w1.heap.size, 2, none⟩ = some (.int .u64 (y0 : Int)) ∧ w'.cell? ⟨w1.heap.size, 3, none⟩ = some (.int .u64 (y1 : Int)) ∧
          Below (w1.alloc (.cells #[.int .u64 (x0 : Int), .int .u64 (x1 : Int), .int .u64 (y0 : Int), .int .u64 (y1 : Int), .bool false] 53)).heap.size (w1.alloc (.cells #[.int .u64 (x0 : Int), .int .u64 (x1 : Int), .int .u64 (y0 : Int), .int .u64 (y1 : Int), .bool false] 53)) w')
        (first | exact ⟨c0, c1, c2, c3, (Below.refl _ _).drew⟩ | exact keep4 b1' HLT.out (by assumption) (by assumption) (by assumption) (by assumption) (by assumption) | exact keep4 b2' HLT.out (by assumption) (by assumption) (by assumption) (by assumption) (by assumption))
        (first
          | (go_at_call_of 36 (Value.int IntKind.u64 (x0 : Int)); go_split_ands; refine (K1.out _ (by assumption)).mono ?_; rintro e W1 ⟨a1, q1, rfl, f1, b1'⟩)
          | (go_at_call_of 36 (Value.int IntKind.u64 (y1 : Int)); go_split_ands; refine (K2.out _ (by assumption)).mono ?_; rintro e W2 ⟨a2, q2, rfl, f2, b2'⟩))
      go_wp2_with fail
      go_ret2
      exact ⟨P, Q, _, _, _, _, rfl, (f1.below b2').mono HB2.out, f2.mono (Nat.le_trans HB2.out b1'.size), B1.trans ((((Below.refl _ _).drew.trans b1').trans (b2'.mono b1'.size)).mono B1.size), hgcd.out, hQM, Nat.le_of_lt hQP, hPN⟩
    · simp only [Rel, Bool.not_true, Bool.false_eq_true, if_false] at hR
      obtain ⟨r1, r2, _⟩ := hR
      have k1 : ∀ W, Below (w1.alloc (.cells #[.int .u64 (x0 : Int), .int .u64 (x1 : Int), .int .u64 (y0 : Int), .int .u64 (y1 : Int), .bool true] 53)).heap.size (w1.alloc (.cells #[.int .u64 (x0 : Int), .int .u64 (x1 : Int), .int .u64 (y0 : Int), .int .u64 (y1 : Int), .bool true] 53)) W → Calls Tryd.prog 36 #[.int .u64 (y0 : Int), .slice bo (dig M).length cb, .int .u64 (x0 : Int), .slice ao (dig N).length ca] W (Makes P W) := fun W h => diff_num (nb.below h) (na.below h) hy0 hx0 r1.symm (.inl hPM)
      have k2 : ∀ W, Below (w1.alloc (.cells #[.int .u64 (x0 : Int), .int .u64 (x1 : Int), .int .u64 (y0 : Int), .int .u64 (y1 : Int), .bool true] 53)).heap.size (w1.alloc (.cells #[.int .u64 (x0 : Int), .int .u64 (x1 : Int), .int .u64 (y0 : Int), .int .u64 (y1 : Int), .bool true] 53)) W → Calls Tryd.prog 36 #[.int .u64 (x1 : Int), .slice ao (dig N).length ca, .int .u64 (y1 : Int), .slice bo (dig M).length cb] W (Makes Q W) := fun W h => diff_num (na.below h) (nb.below h) hx1 hy1 r2.symm (.inr (Nat.le_of_lt hQM))
      have K1 := Lib.hid k1
      have K2 := Lib.hid k2
      have HLT := Lib.hid hblk.lt
      have HB2 := Lib.hid hB2
      clear r1 r2 k1 k2 hblk hB2
      go_wp2_with fail
      clear hx0 hx1 hy0 hy1 hle hM hN
      go_region_held3 (fun w' => w'.cell? ⟨w1.heap.size, 0, none⟩ = some (.int .u64 (x0 : Int)) ∧ w'.cell? ⟨w1.heap.size, 1, none⟩ = some (.int .u64 (x1 : Int)) ∧ w'.cell? ⟨w1.heap.size, 2, none⟩ = some (.int .u64 (y0 : Int)) ∧ w'.cell? ⟨w1.heap.size, 3, none⟩ = some (.int .u64 (y1 : Int)) ∧
          Below (w1.alloc (.cells #[.int .u64 (x0 : Int), .int .u64 (x1 : Int), .int .u64 (y0 : Int), .int .u64 (y1 : Int), .bool true] 53)).heap.size (w1.alloc (.cells #[.int .u64 (x0 : Int), .int .u64 (x1 : Int), .int .u64 (y0 : Int), .int .u64 (y1 : Int), .bool true] 53)) w')
        (first | exact ⟨c0, c1, c2, c3, (Below.refl _ _).drew⟩ | exact keep4 b1' HLT.out (by assumption) (by assumption) (by assumption) (by assumption) (by assumption) | exact keep4 b2' HLT.out (by assumption) (by assumption) (by assumption) (by assumption) (by assumption))
        (first
          | (go_at_call_of 36 (Value.int IntKind.u64 (y0 : Int)); go_split_ands; refine (K1.out _ (by assumption)).mono ?_; rintro e W1 ⟨a1, q1, rfl, f1, b1'⟩)
          | (go_at_call_of 36 (Value.int IntKind.u64 (x1 : Int)); go_split_ands; refine (K2.out _ (by assumption)).mono ?_; rintro e W2 ⟨a2, q2, rfl, f2, b2'⟩))
      go_wp2_with fail
      go_ret2
      exact ⟨P, Q, _, _, _, _, rfl, (f1.below b2').mono HB2.out, f2.mono (Nat.le_trans HB2.out b1'.size), B1.trans ((((Below.refl _ _).drew.trans b1').trans (b2'.mono b1'.size)).mono B1.size), hgcd.out, hQM, Nat.le_of_lt hQP, hPN⟩
end Go.Proofs.YtlgcflapgdkghabDoor
