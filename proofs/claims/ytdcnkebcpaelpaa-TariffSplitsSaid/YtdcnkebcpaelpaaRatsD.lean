import Derived.Test.YtdcnkebcpaelpaaRatsC
/- Contracts of package rational and of its reference: numbers made of two whole numbers, with their errors. -/
namespace Go.Proofs.Ytdcnkebcpaelpaa
open Go.RowKit

/-- what a function that makes a number, or an error, gives -/
def ErrRes (c : Prop) (q : Rat) (k : Nat) (w : World) (e : Ending) (w' : World) : Prop := ∃ s ao n ca bo m cb er, e = .returned (.tuple #[.agg #[.bool s, .slice ao n ca, .slice bo m cb], .int .i64 er]) ∧ CQ w.heap.size w' s ao n ca bo m cb q k ∧ (c ∧ er = 20 ∨ ¬ c ∧ er = 0) ∧ Below w.heap.size w w'
theorem rq_zero_den (s : Bool) (N : Nat) : rq s N 0 = 0 := by unfold rq mkRat; rfl
theorem ErrRes.zero {c : Prop} {q : Rat} {k : Nat} {w w' : World} (hc : c) (hq : q = 0) (hk : 1 ≤ k) (hk2 : k ≤ 549755813888) (hb : Below w.heap.size w w') : ErrRes c q k w (.returned (.tuple #[.agg #[.bool false, .slice none 0 0, .slice none 0 0], .int .i64 20])) w' := by
  subst hq
  exact ⟨_, _, _, _, _, _, _, _, rfl, cq_zero _ _ k hk hk2, .inl ⟨hc, rfl⟩, hb⟩
theorem ErrRes.ok {c : Prop} {q : Rat} {k : Nat} {w w' : World} {e : Ending} (hc : ¬ c) (h : MakesE q k w e w') : ErrRes c q k w e w' := by
  obtain ⟨s, ao, n, ca, bo, m, cb, rfl, h1, h2⟩ := h
  exact ⟨_, _, _, _, _, _, _, _, rfl, h1, .inr ⟨hc, rfl⟩, h2⟩

set_option maxHeartbeats 1000000 in
set_option maxRecDepth 100000 in
theorem whole_num (n : Int) (h0 : -9223372036854775808 ≤ n) (h1 : n ≤ 9223372036854775807) (w : World) :
    Calls Try.prog 34 #[.int .i64 n] w (Makes n.natAbs w) := by
  by_cases hn : n < 0
  · obtain ⟨v1, hv1⟩ : ∃ v, IntKind.i64.wrap (n + 1) = v := ⟨_, rfl⟩
    obtain ⟨v2, hv2⟩ : ∃ v, IntKind.i64.wrap (-v1) = v := ⟨_, rfl⟩
    obtain ⟨v3, hv3⟩ : ∃ v, IntKind.u64.wrap v2 = v := ⟨_, rfl⟩
    obtain ⟨a, ha⟩ : ∃ a, a = n.natAbs := ⟨_, rfl⟩
    have e1 : IntKind.u64.wrap (v3 + 1) = (a : Int) := by
      rw [ha, ← hv3, ← hv2, ← hv1]; simp only [IntKind.wrap_u64, IntKind.wrap_i64]; omega
    have hab : (a : Int) ≤ 18446744073709551615 := by omega
    rw [← ha]
    clear ha
    go_enter Try.func34, Try.ntmps34
    go_wp2_with fail
    refine (rFromUint_any (a : Int) (by omega) hab _).mono ?_; rintro e w1 ⟨a1, c1, rfl, f1, b1⟩
    rw [Int.toNat_natCast] at f1 ⊢
    go_wp2_with fail
    go_ret
    exact ⟨a1, c1, rfl, f1, b1⟩
  · obtain ⟨a, rfl⟩ : ∃ a : Nat, n = (a : Int) := ⟨n.toNat, by omega⟩
    have ha : (a : Int).natAbs = a := by omega
    rw [ha]
    clear ha
    go_enter Try.func34, Try.ntmps34
    go_wp2_with fail
    refine (rFromUint_any (a : Int) (by omega) (by omega) _).mono ?_; rintro e w1 ⟨a1, c1, rfl, f1, b1⟩
    rw [Int.toNat_natCast] at f1 ⊢
    go_wp2_with fail
    go_ret
    exact ⟨a1, c1, rfl, f1, b1⟩

/-- a whole number is canonical -/
theorem cq_whole {B : Nat} {w : World} {s : Bool} {N k : Nat} {ao : Option Addr} {ca : Nat} (hs : s = true → 0 < N) (f : Fr B w ao ca (dig N)) (sa : Sm N k) (hk : 1 ≤ k) : CQ B w s ao (dig N).length ca none 0 0 (rq s N 1) k := by
  have e1 : N / Nat.gcd N 1 = N := by rw [Nat.gcd_one_right, Nat.div_one]
  have e2 : 1 / Nat.gcd N 1 = 1 := by rw [Nat.gcd_one_right]
  have h := cq_of (B := B) (w := w) (s := s) (N := N) (D := 1) (k := k) (ao := ao) (n := (dig N).length) (ca := ca) (bo := none) (m := 0) (cb := 0) (by omega) (by rw [e1]) (by rw [e1]; exact f) (by rw [e2]; rfl) (by rw [e2]; exact Fr.nil _ _) sa ⟨by have := pw_mono hk; simp [pw] at this ⊢; omega, sa.2⟩
  have : (s && decide (0 < (dig N).length)) = s := by
    cases s with
    | false => rfl
    | true => rw [decide_eq_true (dig_length_pos (hs rfl))]; rfl
  rwa [this] at h
theorem int_sign (n : Int) : decide (n < 0) = true → 0 < n.natAbs := fun h => by have := of_decide_eq_true h; omega

set_option maxHeartbeats 2000000 in
set_option maxRecDepth 100000 in
theorem FromInt_q (n : Int) (h0 : -9223372036854775808 ≤ n) (h1 : n ≤ 9223372036854775807) (w : World) :
    Calls Try.prog 46 #[.int .i64 n] w (MakesQ (rq (decide (n < 0)) n.natAbs 1) 2 w) := by
  obtain ⟨W1, hW1, B0, X0, hs1⟩ := boxR w
  have s1 := sm_abs h0 h1
  have HC : Hid (∀ B w' ao ca, Fr B w' ao ca (dig n.natAbs) → CQ B w' (decide (n < 0)) ao (dig n.natAbs).length ca none 0 0 (rq (decide (n < 0)) n.natAbs 1) 2) := fun B w' ao ca f => cq_whole (int_sign n) f s1 (by omega)
  obtain ⟨A, hA⟩ : ∃ A, A = n.natAbs := ⟨_, rfl⟩
  have MA : Hid (∀ w, Calls Try.prog 64 #[.int .i64 n] w (Makes A w)) := fun w => by rw [hA]; exact magnitude_num n h0 h1 w
  rw [← hA] at HC ⊢
  obtain ⟨sg0, hsg⟩ : ∃ sg0, sg0 = decide (n < 0) := ⟨_, rfl⟩
  rw [← hsg] at HC ⊢
  have HG := Lib.hid hsg.symm
  have HS := Lib.hid hs1
  clear hA hsg hs1
  go_enter Try.func46, Try.ntmps46
  go_wp2_with fail
  rw [← hW1]
  clear hW1
  refine (MA.out _).mono ?_; rintro e W2 ⟨a1, c1, rfl, f1, b1⟩
  have X2 := X0.below b1
  obtain ⟨u0, u1, u2, q0, q1, q2, z0, z1, z2⟩ := X2.facts
  try rw [HG.out]
  go_wp2_with fail
  refine bodyPost_ret (v := .agg #[.bool sg0, .slice a1 (dig A).length c1, .slice none 0 0]) (by simp [results, Try.results46, go_sem, q0, q1, q2]) rfl ?_
  exact MakesQ.lift (HC.out _ _ _ _ f1) rfl X0.lt (Nat.le_refl _) (B0.trans (b1.mono B0.size)) _ _ _

set_option maxHeartbeats 2000000 in
set_option maxRecDepth 100000 in
theorem rFromInt_q (n : Int) (h0 : -9223372036854775808 ≤ n) (h1 : n ≤ 9223372036854775807) (w : World) :
    Calls Try.prog 19 #[.int .i64 n] w (MakesQ (rq (decide (n < 0)) n.natAbs 1) 2 w) := by
  obtain ⟨W1, hW1, B0, X0, hs1⟩ := boxR w
  have s1 := sm_abs h0 h1
  have HC : Hid (∀ B w' ao ca, Fr B w' ao ca (dig n.natAbs) → CQ B w' (decide (n < 0)) ao (dig n.natAbs).length ca none 0 0 (rq (decide (n < 0)) n.natAbs 1) 2) := fun B w' ao ca f => cq_whole (int_sign n) f s1 (by omega)
  obtain ⟨A, hA⟩ : ∃ A, A = n.natAbs := ⟨_, rfl⟩
  have MA : Hid (∀ w, Calls Try.prog 34 #[.int .i64 n] w (Makes A w)) := fun w => by rw [hA]; exact whole_num n h0 h1 w
  rw [← hA] at HC ⊢
  obtain ⟨sg0, hsg⟩ : ∃ sg0, sg0 = decide (n < 0) := ⟨_, rfl⟩
  rw [← hsg] at HC ⊢
  have HG := Lib.hid hsg.symm
  have HS := Lib.hid hs1
  clear hA hsg hs1
  go_enter Try.func19, Try.ntmps19
  go_wp2_with fail
  rw [← hW1]
  clear hW1
  refine (MA.out _).mono ?_; rintro e W2 ⟨a1, c1, rfl, f1, b1⟩
  have X2 := X0.below b1
  obtain ⟨u0, u1, u2, q0, q1, q2, z0, z1, z2⟩ := X2.facts
  try rw [HG.out]
  go_wp2_with fail
  refine bodyPost_ret (v := .agg #[.bool sg0, .slice a1 (dig A).length c1, .slice none 0 0]) (by simp [results, Try.results19, go_sem, q0, q1, q2]) rfl ?_
  exact MakesQ.lift (HC.out _ _ _ _ f1) rfl X0.lt (Nat.le_refl _) (B0.trans (b1.mono B0.size)) _ _ _

end Go.Proofs.Ytdcnkebcpaelpaa
/- Contracts: a number rounded to decimals. -/
namespace Go.Proofs.Ytdcnkebcpaelpaa
open Go.RowKit

end Go.Proofs.Ytdcnkebcpaelpaa
/- What the laws of two numbers share; differences and comparisons of both packages. -/
namespace Go.Proofs.Ytdcnkebcpaelpaa
open Go.RowKit
-- COMMON
/-- two structs that the law holds, cut -/
theorem cells6 {w : World} {g : Nat} {u v x u' v' x' : Value} (h1 : w.heap[g]? = some (.cells #[u, v, x] 40 (0, 0))) (h2 : w.heap[g + 1]? = some (.cells #[u', v', x'] 40 (0, 0))) :
    (w.cell? ⟨g, 0, none⟩ = some u ∧ w.cell? ⟨g, 1, none⟩ = some v ∧ w.cell? ⟨g, 2, none⟩ = some x ∧ w.frozen? ⟨g, 0, none⟩ = false ∧ w.frozen? ⟨g, 1, none⟩ = false ∧ w.frozen? ⟨g, 2, none⟩ = false) ∧
    (w.cell? ⟨g + 1, 0, none⟩ = some u' ∧ w.cell? ⟨g + 1, 1, none⟩ = some v' ∧ w.cell? ⟨g + 1, 2, none⟩ = some x' ∧ w.frozen? ⟨g + 1, 0, none⟩ = false ∧ w.frozen? ⟨g + 1, 1, none⟩ = false ∧ w.frozen? ⟨g + 1, 2, none⟩ = false) :=
  ⟨at_block h1, at_block h2⟩
theorem set3_at {w : World} {g : Nat} {u v x : Value} (h : w.heap[g]? = some (.cells #[u, v, x] 40 (0, 0))) (a b c : Value) : (((w.setCell ⟨g, 0, none⟩ a).setCell ⟨g, 1, none⟩ b).setCell ⟨g, 2, none⟩ c).heap[g]? = some (.cells #[a, b, c] 40 (0, 0)) := by
  simp [World.setCell, Array.getElem?_modify, h]
theorem set3_off {w : World} {g k : Nat} (hk : k ≠ g) (a b c : Value) : (((w.setCell ⟨g, 0, none⟩ a).setCell ⟨g, 1, none⟩ b).setCell ⟨g, 2, none⟩ c).heap[k]? = w.heap[k]? := by
  simp [World.setCell, Array.getElem?_modify, Ne.symm hk]
theorem carry {w w' : World} {g : Nat} {o : Obj} (h : w.heap[g]? = some o) (hb : Below w.heap.size w w') : w'.heap[g]? = some o := (hb.block g (Array.getElem?_eq_some_iff.1 h).1).trans h
/-- what the cut structs are worth -/
theorem cut_rq {s : Bool} {ao bo : Option Addr} {ca cb : Nat} {xs ys us vs : List Nat} {w : World} (ha : Rd w ao ca xs) (hb : Rd w bo cb ys) (hu : us = xs.take 12) (hv : vs = ys.take 12) : RQ w s ao us.length ca bo vs.length cb (rq s (val us) (dn (val vs))) 12 := by
  obtain ⟨n1, s1⟩ := Cut_num ha hu
  obtain ⟨n2, s2⟩ := Cut_num hb hv
  refine ⟨val us, val vs, n1, n2, s1, s2, rfl, ?_⟩
  unfold dn; split
  · exact ⟨by simp [pw], by omega⟩
  · exact s2
-- COMMON

theorem set0_at {w : World} {g : Nat} {u v x : Value} {t : TypeId} (h : w.heap[g]? = some (.cells #[u, v, x] t (0, 0))) (a : Value) : (w.setCell ⟨g, 0, none⟩ a).heap[g]? = some (.cells #[a, v, x] t (0, 0)) := by
  simp [World.setCell, Array.getElem?_modify, h]
theorem set0_off {w : World} {g k : Nat} (hk : k ≠ g) (a : Value) : (w.setCell ⟨g, 0, none⟩ a).heap[k]? = w.heap[k]? := by
  simp [World.setCell, Array.getElem?_modify, Ne.symm hk]
/-- a struct that came in with its sign turned -/
theorem RQ.turn {w : World} {t : Bool} {po qo : Option Addr} {l cl j cj k : Nat} {q : Rat} (h : RQ w t po l cl qo j cj q k) : RQ w (!t) po l cl qo j cj (-q) k := by
  obtain ⟨N, D, h1, h2, h3, h4, h5, h6⟩ := h
  exact ⟨N, D, h1, h2, h3, h4, by rw [rq_neg, h5], h6⟩
theorem cmpn_mag (a b : Nat) : -1 ≤ cmpn a b ∧ cmpn a b ≤ 1 := by unfold cmpn; split <;> (try split) <;> omega
theorem cq_mag (p q : Rat) : -1 ≤ cq p q ∧ cq p q ≤ 1 := sgn_mag _
theorem wrap_sign {a b : Int} (ha : -1 ≤ a ∧ a ≤ 1) (hb : -1 ≤ b ∧ b ≤ 1) : IntKind.i64.wrap (a * b) = a * b := by
  have : a = -1 ∨ a = 0 ∨ a = 1 := by omega
  have : b = -1 ∨ b = 0 ∨ b = 1 := by omega
  rcases ‹a = -1 ∨ a = 0 ∨ a = 1› with rfl | rfl | rfl <;> rcases ‹b = -1 ∨ b = 0 ∨ b = 1› with rfl | rfl | rfl <;> rfl

end Go.Proofs.Ytdcnkebcpaelpaa
