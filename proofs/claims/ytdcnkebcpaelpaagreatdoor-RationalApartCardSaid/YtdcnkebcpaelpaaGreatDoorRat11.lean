import Derived.Test.YtdcnkebcpaelpaaGreatDoorRat9
/- Contracts of package rational and of its reference: numbers made of two whole numbers, with their errors. -/
namespace Go.Proofs.YtdcnkebcpaelpaaGreatDoor
open Go.RowKit

/-- what a function that makes a number, or an error, gives -/
def ErrRes (c : Prop) (q : Rat) (k : Nat) (w : World) (e : Ending) (w' : World) : Prop := ∃ s ao n ca bo m cb er, e = .returned (.tuple #[.agg #[.bool s, .slice ao n ca, .slice bo m cb], .int .i64 er]) ∧ CQ w.heap.size w' s ao n ca bo m cb q k ∧ (c ∧ er = 20 ∨ ¬ c ∧ er = 0) ∧ Below w.heap.size w w'
theorem rq_zero_den (s : Bool) (N : Nat) : rq s N 0 = 0 := by unfold rq mkRat; rfl
theorem ErrRes.zero {c : Prop} {q : Rat} {k : Nat} {w w' : World} (hc : c) (hq : q = 0) (hk : 1 ≤ k) (hk2 : k ≤ 549755813888) (hb : Below w.heap.size w w') : ErrRes c q k w (.returned (.tuple #[.agg #[.bool false, .slice none 0 0, .slice none 0 0], .int .i64 20])) w' := by
  subst hq
  exact ⟨_, _, _, _, _, _, _, _, rfl, cq_zero _ _ k hk hk2, .inl ⟨hc, rfl⟩, hb⟩
theorem ErrRes.ok {c : Prop} {q : Rat} {k : Nat} {w w' : World} {e : Ending} (hc : ¬ c) (h : MakesE q k w e w') : ErrRes c q k w e w' := by
  obtain ⟨s, ao, n, ca, bo, m, cb, rfl, h1, h2⟩ := h
  exact ⟨_, _, _, _, _, _, _, _, rfl, h1, .inr ⟨hc, rfl⟩, h2⟩

set_option maxHeartbeats 1000000 in
set_option maxRecDepth 100000 in
theorem whole_num (n : Int) (h0 : -9223372036854775808 ≤ n) (h1 : n ≤ 9223372036854775807) (w : World) :
    Calls Tryz.prog 42 #[.int .i64 n] w (Makes n.natAbs w) := by
  by_cases hn : n < 0
  · obtain ⟨v1, hv1⟩ : ∃ v, IntKind.i64.wrap (n + 1) = v := ⟨_, rfl⟩
    obtain ⟨v2, hv2⟩ : ∃ v, IntKind.i64.wrap (-v1) = v := ⟨_, rfl⟩
    obtain ⟨v3, hv3⟩ : ∃ v, IntKind.u64.wrap v2 = v := ⟨_, rfl⟩
    obtain ⟨a, ha⟩ : ∃ a, a = n.natAbs := ⟨_, rfl⟩
    have e1 : IntKind.u64.wrap (v3 + 1) = (a : Int) := by
      rw [ha, ← hv3, ← hv2, ← hv1]; simp only [IntKind.wrap_u64, IntKind.wrap_i64]; omega
    have hab : (a : Int) ≤ 18446744073709551615 := by omega
    rw [← ha]
    clear ha
    go_enter Tryz.func42, Tryz.ntmps42
    go_wp2_with fail
    refine (rFromUint_any (a : Int) (by omega) hab _).mono ?_; rintro e w1 ⟨a1, c1, rfl, f1, b1⟩
    rw [Int.toNat_natCast] at f1 ⊢
    go_wp2_with fail
    go_ret
    exact ⟨a1, c1, rfl, f1, b1⟩
  · obtain ⟨a, rfl⟩ : ∃ a : Nat, n = (a : Int) := ⟨n.toNat, by omega⟩
    have ha : (a : Int).natAbs = a := by omega
    rw [ha]
    clear ha
    go_enter Tryz.func42, Tryz.ntmps42
    go_wp2_with fail
    refine (rFromUint_any (a : Int) (by omega) (by omega) _).mono ?_; rintro e w1 ⟨a1, c1, rfl, f1, b1⟩
    rw [Int.toNat_natCast] at f1 ⊢
    go_wp2_with fail
    go_ret
    exact ⟨a1, c1, rfl, f1, b1⟩

/-- a whole number is canonical -/
theorem cq_whole {B : Nat} {w : World} {s : Bool} {N k : Nat} {ao : Option Addr} {ca : Nat} (hs : s = true → 0 < N) (f : Fr B w ao ca (dig N)) (sa : Sm N k) (hk : 1 ≤ k) : CQ B w s ao (dig N).length ca none 0 0 (rq s N 1) k := by
  have e1 : N / Nat.gcd N 1 = N := by rw [Nat.gcd_one_right, Nat.div_one]
  have e2 : 1 / Nat.gcd N 1 = 1 := by rw [Nat.gcd_one_right]
  have h := cq_of (B := B) (w := w) (s := s) (N := N) (D := 1) (k := k) (ao := ao) (n := (dig N).length) (ca := ca) (bo := none) (m := 0) (cb := 0) (by omega) (by rw [e1]) (by rw [e1]; exact f) (by rw [e2]; rfl) (by rw [e2]; exact Fr.nil _ _) sa ⟨by have := pw_mono hk; simp [pw] at this ⊢; omega, sa.2⟩
  have : (s && decide (0 < (dig N).length)) = s := by
    cases s with
    | false => rfl
    | true => rw [decide_eq_true (dig_length_pos (hs rfl))]; rfl
  rwa [this] at h
theorem int_sign (n : Int) : decide (n < 0) = true → 0 < n.natAbs := fun h => by have := of_decide_eq_true h; omega

set_option maxHeartbeats 2000000 in
set_option maxRecDepth 100000 in
theorem FromInt_q (n : Int) (h0 : -9223372036854775808 ≤ n) (h1 : n ≤ 9223372036854775807) (w : World) :
    Calls Tryz.prog 22 #[.int .i64 n] w (MakesQ (rq (decide (n < 0)) n.natAbs 1) 2 w) := by
  obtain ⟨W1, hW1, B0, X0, hs1⟩ := boxR w
  have s1 := sm_abs h0 h1
  have HC : Hid (∀ B w' ao ca, Fr B w' ao ca (dig n.natAbs) → CQ B w' (decide (n < 0)) ao (dig n.natAbs).length ca none 0 0 (rq (decide (n < 0)) n.natAbs 1) 2) := fun B w' ao ca f => cq_whole (int_sign n) f s1 (by omega)
  obtain ⟨A, hA⟩ : ∃ A, A = n.natAbs := ⟨_, rfl⟩
  have MA : Hid (∀ w, Calls Tryz.prog 43 #[.int .i64 n] w (Makes A w)) := fun w => by rw [hA]; exact magnitude_num n h0 h1 w
  rw [← hA] at HC ⊢
  obtain ⟨sg0, hsg⟩ : ∃ sg0, sg0 = decide (n < 0) := ⟨_, rfl⟩
  rw [← hsg] at HC ⊢
  have HG := Lib.hid hsg.symm
  have HS := Lib.hid hs1
  clear hA hsg hs1
  go_enter Tryz.func22, Tryz.ntmps22
  go_wp2_with fail
  rw [← hW1]
  clear hW1
  refine (MA.out _).mono ?_; rintro e W2 ⟨a1, c1, rfl, f1, b1⟩
  have X2 := X0.below b1
  obtain ⟨u0, u1, u2, q0, q1, q2, z0, z1, z2⟩ := X2.facts
  try rw [HG.out]
  go_wp2_with fail
  refine bodyPost_ret (v := .agg #[.bool sg0, .slice a1 (dig A).length c1, .slice none 0 0]) (by simp [results, Tryz.results22, go_sem, q0, q1, q2]) rfl ?_
  exact MakesQ.lift (HC.out _ _ _ _ f1) rfl X0.lt (Nat.le_refl _) (B0.trans (b1.mono B0.size)) _ _ _

set_option maxHeartbeats 2000000 in
set_option maxRecDepth 100000 in
theorem rFromInt_q (n : Int) (h0 : -9223372036854775808 ≤ n) (h1 : n ≤ 9223372036854775807) (w : World) :
    Calls Tryz.prog 21 #[.int .i64 n] w (MakesQ (rq (decide (n < 0)) n.natAbs 1) 2 w) := by
  obtain ⟨W1, hW1, B0, X0, hs1⟩ := boxR w
  have s1 := sm_abs h0 h1
  have HC : Hid (∀ B w' ao ca, Fr B w' ao ca (dig n.natAbs) → CQ B w' (decide (n < 0)) ao (dig n.natAbs).length ca none 0 0 (rq (decide (n < 0)) n.natAbs 1) 2) := fun B w' ao ca f => cq_whole (int_sign n) f s1 (by omega)
  obtain ⟨A, hA⟩ : ∃ A, A = n.natAbs := ⟨_, rfl⟩
  have MA : Hid (∀ w, Calls Tryz.prog 42 #[.int .i64 n] w (Makes A w)) := fun w => by rw [hA]; exact whole_num n h0 h1 w
  rw [← hA] at HC ⊢
  obtain ⟨sg0, hsg⟩ : ∃ sg0, sg0 = decide (n < 0) := ⟨_, rfl⟩
  rw [← hsg] at HC ⊢
  have HG := Lib.hid hsg.symm
  have HS := Lib.hid hs1
  clear hA hsg hs1
  go_enter Tryz.func21, Tryz.ntmps21
  go_wp2_with fail
  rw [← hW1]
  clear hW1
  refine (MA.out _).mono ?_; rintro e W2 ⟨a1, c1, rfl, f1, b1⟩
  have X2 := X0.below b1
  obtain ⟨u0, u1, u2, q0, q1, q2, z0, z1, z2⟩ := X2.facts
  try rw [HG.out]
  go_wp2_with fail
  refine bodyPost_ret (v := .agg #[.bool sg0, .slice a1 (dig A).length c1, .slice none 0 0]) (by simp [results, Tryz.results21, go_sem, q0, q1, q2]) rfl ?_
  exact MakesQ.lift (HC.out _ _ _ _ f1) rfl X0.lt (Nat.le_refl _) (B0.trans (b1.mono B0.size)) _ _ _

set_option maxHeartbeats 2000000 in
set_option maxRecDepth 100000 in
theorem Fraction_zero (n : Int) (w : World) :
    Calls Tryz.prog 35 #[.int .i64 n, .int .i64 0] w fun e w' => e = .returned (.tuple #[.agg #[.bool false, .slice none 0 0, .slice none 0 0], .int .i64 20]) ∧ Below w.heap.size w w' := by
  go_enter Tryz.func35, Tryz.ntmps35
  go_wp2_with fail
  refine bodyPost_ret (v := .tuple #[.agg #[.bool false, .slice none 0 0, .slice none 0 0], .int .i64 20]) (by simp [results, Tryz.results35, go_sem]) rfl ?_
  exact ⟨rfl, below_new w _⟩
theorem Fraction_any (n d : Int) (hn0 : -9223372036854775808 ≤ n) (hn1 : n ≤ 9223372036854775807) (hd0 : -9223372036854775808 ≤ d) (hd1 : d ≤ 9223372036854775807) (w : World) :
    Calls Tryz.prog 35 #[.int .i64 n, .int .i64 d] w (ErrRes (d = 0) (rq (decide (n < 0) != decide (d < 0)) n.natAbs d.natAbs) 2 w) := by
  by_cases hd : d = 0
  · subst hd
    refine (Fraction_zero n w).mono ?_
    rintro e w' ⟨rfl, hb⟩
    exact ErrRes.zero rfl (rq_zero_den _ _) (by omega) (by omega) hb
  · exact (Fraction_q n d hn0 hn1 hd0 hd1 hd w).mono fun e w' h => ErrRes.ok hd h
end Go.Proofs.YtdcnkebcpaelpaaGreatDoor
