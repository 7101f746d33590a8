import Derived.Test.YtdcnkebcpaelpaaRatsD
import Derived.Test.YtdcnkebcpaelpaaPairs
import Derived.Deep.CutRange
/- Contracts: the law's quarter; a number's size named anew. -/
namespace Go.Proofs.Ytdcnkebcpaelpaa
open Go.RowKit

theorem CQ.resize {B : Nat} {w : World} {s : Bool} {ao : Option Addr} {n ca : Nat} {bo : Option Addr} {m cb : Nat} {q : Rat} {k l : Nat} (h : CQ B w s ao n ca bo m cb q k) (h1 : Sm (rn q) l) (h2 : Sm q.den l) : CQ B w s ao n ca bo m cb q l := by
  obtain ⟨a1, a2, a3, a4, a5, _, _⟩ := h
  exact ⟨a1, a2, a3, a4, a5, h1, h2⟩
theorem unit_sm {i : Nat} (hi : i ≤ 60) : Sm (rn (rq false 1 (10 ^ i))) 200 ∧ Sm (rq false 1 (10 ^ i)).den 200 := by
  have h := @rq_le false 1 (10 ^ i) (Nat.pow_pos (by omega))
  refine ⟨Sm.of_le (show Sm 1 200 from ⟨?_, by omega⟩) h.1, Sm.of_le (ten_sm hi) h.2⟩
  have h3 := pw_mono (show 1 ≤ 200 by omega)
  have : pw 1 = 4294967296 := by simp [pw]
  omega
end Go.Proofs.Ytdcnkebcpaelpaa
/- Contracts: powers of a number that is not 0, with an exponent of at most 60. -/
namespace Go.Proofs.Ytdcnkebcpaelpaa
open Go.RowKit

def odd (j : Nat) : Bool := decide (j % 2 = 1)
/-- q to the power j, or to the power -j -/
def powE (q : Rat) (j : Nat) (ng : Bool) : Rat := rq (rs q && odd j) (if ng then q.den ^ j else rn q ^ j) (if ng then rn q ^ j else q.den ^ j)
theorem rn_pos {q : Rat} (h : q ≠ 0) : 0 < rn q := by
  rcases Nat.eq_zero_or_pos (rn q) with e | e
  · exact absurd (Rat.num_eq_zero.1 (Int.natAbs_eq_zero.1 e)) h
  · exact e
theorem powE_mul {q : Rat} (h : q ≠ 0) (j : Nat) (ng : Bool) : powE q j ng * powE q j (!ng) = 1 := by
  have h1 : 0 < rn q ^ j := Nat.pow_pos (rn_pos h)
  have h2 : 0 < q.den ^ j := Nat.pow_pos (den_pos q)
  unfold powE
  rw [← rq_mul, bne_self_eq_false]
  have key : ∀ a b : Nat, 0 < a → 0 < b → rq false (a * b) (b * a) = 1 := fun a b ha hb => by
    unfold rq sg
    have hne := Nat.mul_pos ha hb
    rw [Nat.mul_comm b a, if_neg (by simp), show (1 : Rat) = mkRat 1 1 from rfl, Rat.mkRat_eq_iff (by omega) (by decide)]
    simp
  cases ng
  · exact key _ _ h1 h2
  · exact key _ _ h2 h1
/-- the canonical form of a quotient in lowest terms -/
theorem cq_copr {B : Nat} {w : World} {s : Bool} {N D k : Nat} {ao : Option Addr} {n ca : Nat} {bo : Option Addr} {m cb : Nat} (hg : Nat.gcd N D = 1) (hN : 0 < N) (hD : 0 < D) (hn : n = (dig N).length) (fn : Fr B w ao ca (dig N)) (hm : m = (dd D).length) (fd : Fr B w bo cb (dd D)) (sa : Sm N k) (sd : Sm D k) :
    CQ B w s ao n ca bo m cb (rq s N D) k := by
  have h := cq_of (B := B) (w := w) (s := s) (ao := ao) (n := n) (ca := ca) (bo := bo) (m := m) (cb := cb) (N := N) (D := D) (k := k) hD (by rw [hg, Nat.div_one]; exact hn) (by rw [hg, Nat.div_one]; exact fn) (by rw [hg, Nat.div_one]; exact hm) (by rw [hg, Nat.div_one]; exact fd) sa sd
  rwa [decide_eq_true (by rw [hn]; exact dig_length_pos hN), Bool.and_true] at h
theorem copr_pow {q : Rat} (j : Nat) : Nat.gcd (rn q ^ j) (q.den ^ j) = 1 := Nat.Coprime.pow j j (gcd_self q)
theorem i64_and_one (n : Int) : bits BinOp.and IntKind.i64 n 1 = n % 2 := by
  have h1 : (BitVec.ofInt 64 1).toNat = 2 ^ 1 - 1 := by decide
  have key : (BitVec.ofInt 64 n &&& BitVec.ofInt 64 1).toNat = (n % ((2 ^ 64 : Nat) : Int)).toNat % 2 ^ 1 := by
    rw [BitVec.toNat_and, BitVec.toNat_ofInt, h1, Nat.and_two_pow_sub_one_eq_mod]
  show IntKind.i64.wrap ((BitVec.ofInt 64 n &&& BitVec.ofInt 64 1).toNat : Nat) = n % 2
  rw [key, IntKind.wrap_i64]
  omega

end Go.Proofs.Ytdcnkebcpaelpaa
/- Contracts: powers, the walk. -/
namespace Go.Proofs.Ytdcnkebcpaelpaa
open Go.RowKit

/-- the parts of a canonical number, as natural numbers -/
theorem CQ.parts {B : Nat} {w : World} {s : Bool} {ao : Option Addr} {n ca : Nat} {bo : Option Addr} {m cb : Nat} {q : Rat} {k : Nat} (h : CQ B w s ao n ca bo m cb q k) :
    s = rs q ∧ Num w ao n ca (rn q) ∧ n = (dig (rn q)).length ∧ Fr B w ao ca (dig (rn q)) ∧ (∃ D, Num w bo m cb D ∧ dn D = q.den) ∧ Sm (rn q) k ∧ Sm q.den k := by
  obtain ⟨h1, h2, h3, h4, h5, h6, h7⟩ := h
  refine ⟨h1, by rw [h2]; exact Num.of_fr h4 h6, h2, h4, ⟨val (dd q.den), ?_, val_dd (den_pos q)⟩, h6, h7⟩
  exact ⟨dd q.den, h3, h5.rd, rfl, Nat.le_trans (dd_len _) h7.len⟩

end Go.Proofs.Ytdcnkebcpaelpaa
/- Contracts: a number of small parts, the number 1, powers with their exponents. -/
namespace Go.Proofs.Ytdcnkebcpaelpaa
open Go.RowKit

theorem small_rq {s : Bool} {ao bo : Option Addr} {ca cb : Nat} {xs ys us vs : List Nat} {w : World} (ha : Rd w ao ca xs) (hb : Rd w bo cb ys) (hu : us = xs.take 1) (hv : vs = ys.take 1) : RQ w s ao us.length ca bo vs.length cb (rq s (val us) (dn (val vs))) 2 := by
  have key : ∀ {o : Option Addr} {c : Nat} {zs ws : List Nat}, Rd w o c zs → ws = zs.take 1 → Num w o ws.length c (val ws) ∧ Sm (val ws) 2 := by
    intro o c zs ws h hw
    have hl : ws.length ≤ 1 := by rw [hw, List.length_take]; omega
    have h2 : Rd w o c ws := by rw [hw]; exact h.take 1
    exact ⟨Num.of_rd h2 (by omega), Nat.lt_of_lt_of_le (val_lt h2.lims) (pw_mono (by omega)), by omega⟩
  obtain ⟨n1, s1⟩ := key ha hu
  obtain ⟨n2, s2⟩ := key hb hv
  refine ⟨val us, val vs, n1, n2, s1, s2, rfl, ?_⟩
  unfold dn; split
  · exact ⟨by simp [pw], by omega⟩
  · exact s2

set_option maxHeartbeats 2000000 in
set_option maxRecDepth 100000 in
theorem rOne_q (w : World) : Calls Try.prog 18 #[] w (MakesQ 1 2 w) := by
  obtain ⟨W1, hW1, B0, X0, hs1⟩ := boxR w
  have F1 : Hid (∀ w', Calls Try.prog 19 #[.int .i64 1] w' (MakesQ 1 2 w')) := fun w' => rFromInt_q 1 (by omega) (by omega) w'
  have HS := Lib.hid hs1
  clear hs1
  go_enter Try.func18, Try.ntmps18
  go_wp2_with fail
  rw [← hW1]
  clear hW1
  refine (F1.out _).mono ?_; rintro e W2 ⟨s2, a2, n2, c2, o2, m2, d2, rfl, cq2, b2⟩
  have X2 := X0.below b2
  have hlt := X0.lt
  obtain ⟨u0, u1, u2, q0, q1, q2, z0, z1, z2⟩ := X2.facts
  go_wp2_with fail
  refine bodyPost_ret (v := .agg #[.bool s2, .slice a2 n2 c2, .slice o2 m2 d2]) (by simp [results, Try.results18, go_sem, q0, q1, q2]) rfl ?_
  exact MakesQ.lift cq2 rfl hlt (Nat.le_refl _) (B0.trans (b2.mono B0.size)) _ _ _
theorem powE_zero (q : Rat) : powE q 0 true = powE q 0 false := by unfold powE; simp
end Go.Proofs.Ytdcnkebcpaelpaa
