import Derived.Test.YtobiepkhommeaaaDoorRat9
/- Contracts of package rational and of its reference: numbers made of two whole numbers, with their errors. -/
namespace Go.Proofs.YtobiepkhommeaaaDoor
open Go.RowKit

/-- what a function that makes a number, or an error, gives -/
def ErrRes (c : Prop) (q : Rat) (k : Nat) (w : World) (e : Ending) (w' : World) : Prop := ∃ s ao n ca bo m cb er, e = .returned (.tuple #[.agg #[.bool s, .slice ao n ca, .slice bo m cb], .int .i64 er]) ∧ CQ w.heap.size w' s ao n ca bo m cb q k ∧ (c ∧ er = 20 ∨ ¬ c ∧ er = 0) ∧ Below w.heap.size w w'
theorem rq_zero_den (s : Bool) (N : Nat) : rq s N 0 = 0 := by unfold rq mkRat; rfl
theorem ErrRes.zero {c : Prop} {q : Rat} {k : Nat} {w w' : World} (hc : c) (hq : q = 0) (hk : 1 ≤ k) (hk2 : k ≤ 549755813888) (hb : Below w.heap.size w w') : ErrRes c q k w (.returned (.tuple #[.agg #[.bool false, .slice none 0 0, .slice none 0 0], .int .i64 20])) w' := by
  subst hq
  exact ⟨_, _, _, _, _, _, _, _, rfl, cq_zero _ _ k hk hk2, .inl ⟨hc, rfl⟩, hb⟩
theorem ErrRes.ok {c : Prop} {q : Rat} {k : Nat} {w w' : World} {e : Ending} (hc : ¬ c) (h : MakesE q k w e w') : ErrRes c q k w e w' := by
  obtain ⟨s, ao, n, ca, bo, m, cb, rfl, h1, h2⟩ := h
  exact ⟨_, _, _, _, _, _, _, _, rfl, h1, .inr ⟨hc, rfl⟩, h2⟩

/-- a whole number is canonical -/
theorem cq_whole {B : Nat} {w : World} {s : Bool} {N k : Nat} {ao : Option Addr} {ca : Nat} (hs : s = true → 0 < N) (f : Fr B w ao ca (dig N)) (sa : Sm N k) (hk : 1 ≤ k) : CQ B w s ao (dig N).length ca none 0 0 (rq s N 1) k := by
  have e1 : N / Nat.gcd N 1 = N := by rw [Nat.gcd_one_right, Nat.div_one]
  have e2 : 1 / Nat.gcd N 1 = 1 := by rw [Nat.gcd_one_right]
  have h := cq_of (B := B) (w := w) (s := s) (N := N) (D := 1) (k := k) (ao := ao) (n := (dig N).length) (ca := ca) (bo := none) (m := 0) (cb := 0) (by omega) (by rw [e1]) (by rw [e1]; exact f) (by rw [e2]; rfl) (by rw [e2]; exact Fr.nil _ _) sa ⟨by have := pw_mono hk; simp [pw] at this ⊢; omega, sa.2⟩
  have : (s && decide (0 < (dig N).length)) = s := by
    cases s with
    | false => rfl
    | true => rw [decide_eq_true (dig_length_pos (hs rfl))]; rfl
  rwa [this] at h
theorem int_sign (n : Int) : decide (n < 0) = true → 0 < n.natAbs := fun h => by have := of_decide_eq_true h; omega

set_option maxHeartbeats 2000000 in
set_option maxRecDepth 100000 in
theorem FromInt_q (n : Int) (h0 : -9223372036854775808 ≤ n) (h1 : n ≤ 9223372036854775807) (w : World) :
    Calls Tryd.prog 23 #[.int .i64 n] w (MakesQ (rq (decide (n < 0)) n.natAbs 1) 2 w) := by
  obtain ⟨W1, hW1, B0, X0, hs1⟩ := boxR w
  have s1 := sm_abs h0 h1
  have HC : Hid (∀ B w' ao ca, Fr B w' ao ca (dig n.natAbs) → CQ B w' (decide (n < 0)) ao (dig n.natAbs).length ca none 0 0 (rq (decide (n < 0)) n.natAbs 1) 2) := fun B w' ao ca f => cq_whole (int_sign n) f s1 (by omega)
  obtain ⟨A, hA⟩ : ∃ A, A = n.natAbs := ⟨_, rfl⟩
  have MA : Hid (∀ w, Calls Tryd.prog 38 #[.int .i64 n] w (Makes A w)) := fun w => by rw [hA]; exact magnitude_num n h0 h1 w
  rw [← hA] at HC ⊢
  obtain ⟨sg0, hsg⟩ : ∃ sg0, sg0 = decide (n < 0) := ⟨_, rfl⟩
  rw [← hsg] at HC ⊢
  have HG := Lib.hid hsg.symm
  have HS := Lib.hid hs1
  clear hA hsg hs1
  go_enter Tryd.func23, Tryd.ntmps23
  go_wp2_with fail
  rw [← hW1]
  clear hW1
  refine (MA.out _).mono ?_; rintro e W2 ⟨a1, c1, rfl, f1, b1⟩
  have X2 := X0.below b1
  obtain ⟨u0, u1, u2, q0, q1, q2, z0, z1, z2⟩ := X2.facts
  try rw [HG.out]
  go_wp2_with fail
  refine bodyPost_ret (v := .agg #[.bool sg0, .slice a1 (dig A).length c1, .slice none 0 0]) (by simp [results, Tryd.results23, go_sem, q0, q1, q2]) rfl ?_
  exact MakesQ.lift (HC.out _ _ _ _ f1) rfl X0.lt (Nat.le_refl _) (B0.trans (b1.mono B0.size)) _ _ _

end Go.Proofs.YtobiepkhommeaaaDoor
