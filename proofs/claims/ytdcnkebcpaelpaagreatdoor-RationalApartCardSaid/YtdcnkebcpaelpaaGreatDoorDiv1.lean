import Derived.Test.YtdcnkebcpaelpaaGreatDoorNats
/- Divide where the divisor is 0, has one limb, or is longer. -/
namespace Go.Proofs.YtdcnkebcpaelpaaGreatDoor
open Go.RowKit

theorem ret_div {a b : Option Addr} {n m k l c d : Nat} {p q : Bool} (h1 : n = m) (h2 : k = l) (h3 : p = q) :
    Ending.returned (.tuple #[.slice a n c, .slice b k d, .bool p]) = .returned (.tuple #[.slice a m c, .slice b l d, .bool q]) := by rw [h1, h2, h3]

theorem trim_nil_val {xs : List Nat} (e : (trim xs).length = 0) : val xs = 0 := by
  rw [← val_trim, List.eq_nil_of_length_eq_zero e]; rfl
theorem trim_one_val {xs : List Nat} (e : (trim xs).length = 1) : val xs = lm xs 0 ∧ 0 < lm xs 0 := by
  have h1 : val xs = vl (trim xs) 1 := by rw [← val_trim]; exact (vl_ge _ _ (by omega)).symm
  have h2 : vl (trim xs) 1 = lm xs 0 := by rw [vl, vl, lm_trim, pw_zero]; omega
  have h3 := canon_trim xs
  rcases h3 with h3 | h3
  · rw [h3] at e; simp at e
  · rw [e, lm_trim] at h3
    have h4 : lm xs 0 ≠ 0 := h3
    exact ⟨h1.trans h2, by omega⟩
theorem trim_short {xs ys : List Nat} (hx : Lims xs) (hy : Lims ys) (h : (trim xs).length < (trim ys).length) : val xs < val ys := by
  rw [trim_dig hx, trim_dig hy] at h
  rcases Nat.lt_or_ge (val xs) (val ys) with k | k
  · exact k
  · have := dig_mono k; omega

/-- what Divide gives -/
def DivPost (N M : Nat) (w : World) (e : Ending) (w' : World) : Prop :=
  ∃ qo qc ro rc, e = .returned (.tuple #[.slice qo (dig (N / M)).length qc, .slice ro (dig (N % M)).length rc, .bool true]) ∧ Fr w.heap.size w' qo qc (dig (N / M)) ∧ Fr w.heap.size w' ro rc (dig (N % M)) ∧ Below w.heap.size w w'

set_option maxHeartbeats 1000000 in
set_option maxRecDepth 100000 in
theorem Divide_zero (ao bo : Option Addr) (ca cb : Nat) (xs ys : List Nat) (w : World) (ha : Rd w ao ca xs) (hb : Rd w bo cb ys) (h0 : val ys = 0) :
    Calls Tryz.prog 38 #[.slice ao xs.length ca, .slice bo ys.length cb] w fun e w' => e = .returned (.tuple #[.slice none 0 0, .slice none 0 0, .bool false]) ∧ w = w' := by
  have hz := Lib.hid ((congrArg List.length (trim_dig hb.lims)).trans (by rw [h0]; rfl : _ = 0))
  clear h0
  go_enter Tryz.func38, Tryz.ntmps38
  go_wp2_with fail
  refine (significant_any _ _ _ _ ha).mono ?_; rintro e w' ⟨rfl, rfl⟩
  go_wp2_with fail
  refine (significant_any _ _ _ _ hb).mono ?_; rintro e w' ⟨rfl, rfl⟩
  rw [hz.out]
  go_wp2
  go_ret3
  exact ⟨rfl, rfl⟩

set_option maxHeartbeats 1000000 in
set_option maxRecDepth 100000 in
theorem Divide_less (ao bo : Option Addr) (ca cb : Nat) (xs ys : List Nat) (w : World) (ha : Rd w ao ca xs) (hb : Rd w bo cb ys) (hlt : (trim xs).length < (trim ys).length) (hx : xs.length ≤ 1099511627776) :
    Calls Tryz.prog 38 #[.slice ao xs.length ca, .slice bo ys.length cb] w (DivPost (val xs) (val ys) w) := by
  have hv := trim_short ha.lims hb.lims hlt
  have e1 := Lib.hid (Nat.div_eq_of_lt hv)
  have e2 := Lib.hid (Nat.mod_eq_of_lt hv)
  have hl := trim_length_le xs
  have hl2 := trim_length_le ys
  have hm := hb.max
  have hle := hb.le
  have hd : (((trim ys).length : Int) == 0) = false := beq_eq_false_iff_ne.2 (by omega)
  go_enter Tryz.func38, Tryz.ntmps38
  go_wp2_with fail
  refine (significant_any _ _ _ _ ha).mono ?_; rintro e w' ⟨rfl, rfl⟩
  go_wp2_with fail
  refine (significant_any _ _ _ _ hb).mono ?_; rintro e w' ⟨rfl, rfl⟩
  go_wp2_with fail
  refine (Trim_any _ _ _ _ ha.trim (by omega)).mono ?_
  rintro e w' ⟨ro, rc, rfl, hf, hbl⟩
  rw [val_trim] at hf
  go_wp2_with fail
  go_ret3
  refine ⟨none, 0, ro, rc, ret_div (by rw [e1.out]; rfl) (by rw [val_trim, e2.out]) rfl, by rw [e1.out]; exact Fr.nil _ _, by rw [e2.out]; exact hf, hbl⟩

set_option maxHeartbeats 1000000 in
set_option maxRecDepth 100000 in
theorem Divide_one (ao bo : Option Addr) (ca cb : Nat) (xs ys : List Nat) (w : World) (ha : Rd w ao ca xs) (hb : Rd w bo cb ys) (h1 : (trim ys).length = 1) (hle : 1 ≤ (trim xs).length) (hx : xs.length ≤ 1099511627776) :
    Calls Tryz.prog 38 #[.slice ao xs.length ca, .slice bo ys.length cb] w (DivPost (val xs) (val ys) w) := by
  have hl := trim_length_le xs
  have hl2 := trim_length_le ys
  have hdl := dig_length_val ha.lims
  have hv := trim_one_val h1
  have hyb := hb.lims 0
  obtain ⟨b, o, rfl, hc⟩ := hb.at (by omega)
  have hc0 := hc 0 (by omega)
  rw [Nat.add_zero] at hc0
  obtain ⟨d, hd⟩ : ∃ d, d = val ys := ⟨_, rfl⟩
  rw [← hv.1, ← hd] at hc0
  have hd0 : 0 < d := by omega
  have hd1 : d < 4294967296 := by omega
  have hdh := Lib.hid hd
  have h1h := Lib.hid h1
  rw [← hd]
  clear hc hv hd
  have hm := ha.max
  have hla := ha.le
  go_enter Tryz.func38, Tryz.ntmps38
  go_wp2_with fail
  refine (significant_any _ _ _ _ ha).mono ?_; rintro e w' ⟨rfl, rfl⟩
  go_wp2_with fail
  refine (significant_any _ _ _ _ hb).mono ?_; rintro e w' ⟨rfl, rfl⟩
  rw [h1h.out]
  clear h1
  go_wp2_with fail
  refine (Trim_any _ _ _ _ ha.trim (by omega)).mono ?_
  rintro e w1 ⟨qo, qc, rfl, hf, hbl⟩
  have hc1 := (hbl.cell (p := ⟨b, o, none⟩) (World.block_lt_of_cell? w _ hc0)).trans hc0
  have hs1 := hbl.size
  have evx := Lib.hid (val_trim xs)
  rw [evx.out] at hf ⊢
  go_wp2_with fail
  refine (divideInPlace_any w.heap.size qo qc d _ w1 hf hd0 hd1 (by omega) hs1).mono ?_
  rintro e w2 ⟨zs, rfl, k1, k2, k3, k4, k5, k6⟩
  have K1 := Lib.hid k1
  have K2 := Lib.hid k2
  clear k1 k2
  have hs2 := k5.size
  have hr0 : 0 ≤ ((val (dig (val xs)) % d : Nat) : Int) := by omega
  have hr1 : val (dig (val xs)) % d < d := Nat.mod_lt _ hd0
  go_wp2_with fail
  refine (significant_len _ _ _ _ k3.rd _ K1.out.symm).mono ?_; rintro e w' ⟨rfl, rfl⟩
  go_wp2_with fail
  refine (FromUint_any _ (by omega) (by omega) _).mono ?_
  rintro e w3 ⟨ro, rc, rfl, hf3, hb3⟩
  go_wp2_with fail
  go_ret3
  have q1 : trim zs = dig (val xs / d) := by rw [trim_dig k3.lims, K2.out, val_dig]
  have q2 : (((val (dig (val xs)) : Nat) : Int) % (d : Int)).toNat = val xs % d := by rw [← Int.natCast_emod, Int.toNat_natCast, val_dig]
  have f1 := (k3.below hb3).trim
  rw [q1] at f1
  rw [q2] at hf3
  exact ⟨qo, qc, ro, rc, ret_div (by rw [q1]) (by rw [q2]) rfl, f1, hf3.mono (by omega), (hbl.trans k5).trans (hb3.mono (by omega))⟩
end Go.Proofs.YtdcnkebcpaelpaaGreatDoor
