import Derived.Test.YtdcnkebcpaelpaaGreatDoorDiv2
import Derived.Test.YtdcnkebcpaelpaaGreatDoorMaths
import Derived.Test.YtdcnkebcpaelpaaGreatDoorBits
import Derived.Laws.CopyOwn
/- Contract of natural.divideLong: Knuth's long division. -/
namespace Go.Proofs.YtdcnkebcpaelpaaGreatDoor
open Go.RowKit

set_option maxHeartbeats 400000 in
theorem lz32_any (x : Nat) (w : World) (h1 : x < 4294967296) : Calls Tryz.prog 80 #[.int .u32 (x : Int)] w fun e w' => e = .returned (.int .i64 (32 - (bl x : Nat) : Int)) ∧ w = w' := by
  have hb : bl x ≤ 32 := bl_le.2 (by omega)
  go_enter Tryz.func80, Tryz.ntmps80
  go_wp2_with fail
  refine (len32_any x w h1).mono ?_; rintro e w' ⟨rfl, rfl⟩
  go_wp2_with fail
  go_ret
  exact ⟨rfl, rfl⟩

theorem shl_len (ao : Option Addr) (cap s n : Nat) (xs : List Nat) (w : World) (h : Rd w ao cap xs) (hb : xs.length ≤ 549755813888) (hs : s < 32) (hn : n = xs.length) :
    Calls Tryz.prog 81 #[.slice ao n cap, .int .i64 (s : Int)] w fun e w' => ∃ ao' cap', e = .returned (.slice ao' (dig (val xs * 2 ^ s)).length cap') ∧ Fr w.heap.size w' ao' cap' (dig (val xs * 2 ^ s)) ∧ Below w.heap.size w w' := by
  subst hn; exact shiftLeft_any ao cap s 0 s xs w h hb (by omega) hs (by omega)
theorem shr_len (ao : Option Addr) (cap s n : Nat) (xs : List Nat) (w : World) (h : Rd w ao cap xs) (hb : xs.length ≤ 549755813889) (hs : s < 32) (hn : n = xs.length) :
    Calls Tryz.prog 84 #[.slice ao n cap, .int .i64 (s : Int)] w fun e w' => ∃ ao' cap', e = .returned (.slice ao' (dig (val xs / 2 ^ s)).length cap') ∧ Fr w.heap.size w' ao' cap' (dig (val xs / 2 ^ s)) ∧ Below w.heap.size w w' := by
  subst hn; exact shiftRight_any ao cap s 0 s xs w h hb (by omega) hs (by omega)
/-- a fresh result with limbs has a block -/
theorem Fr.block {B : Nat} {w : World} {ao : Option Addr} {cap : Nat} {xs : List Nat} (h : Fr B w ao cap xs) (hn : 0 < xs.length) : ∃ b, ao = some ⟨b, 0, none⟩ ∧ B ≤ b ∧ Own w b xs := by
  obtain ⟨h1, h2, h3, h4⟩ := h
  rcases h4 with ⟨_, h5, _⟩ | h5
  · rw [h5] at hn; simp at hn
  · exact h5

/-- the shifted divisor has av many limbs av the divisor -/
theorem norm_len {zs : List Nat} {k s : Nat} (hl : Lims zs) (hk : zs.length = k + 2) (ht : 0 < lm zs (k + 1)) (hs : s + bl (lm zs (k + 1)) = 32) :
    (dig (val zs * 2 ^ s)).length = k + 2 ∧ 0 < lm (dig (val zs * 2 ^ s)) (k + 1) ∧ val zs * 2 ^ s < pw (k + 2) ∧ pw (k + 1) ≤ val zs := by
  have hv : val zs = vl zs (k + 1) + lm zs (k + 1) * pw (k + 1) := by rw [← vl_all, hk, vl]
  have h1 : pw (k + 1) ≤ val zs := by
    rw [hv]; have : 1 * pw (k + 1) ≤ lm zs (k + 1) * pw (k + 1) := Nat.mul_le_mul_right _ ht
    omega
  have h2 : val zs < (lm zs (k + 1) + 1) * pw (k + 1) := by
    rw [hv, Nat.succ_mul]; have := vl_lt hl (k + 1); omega
  have h3 : val zs * 2 ^ s < pw (k + 2) := by
    have a1 : (lm zs (k + 1) + 1) * pw (k + 1) ≤ 2 ^ bl (lm zs (k + 1)) * pw (k + 1) := Nat.mul_le_mul_right _ (bl_self _)
    have a2 : val zs * 2 ^ s < 2 ^ bl (lm zs (k + 1)) * pw (k + 1) * 2 ^ s := Nat.mul_lt_mul_of_pos_right (by omega) (Nat.two_pow_pos s)
    have a3 : 2 ^ bl (lm zs (k + 1)) * pw (k + 1) * 2 ^ s = pw (k + 1) * (2 ^ s * 2 ^ bl (lm zs (k + 1))) := by grind
    rw [a3, ← Nat.pow_add, hs, show (2 : Nat) ^ 32 = 4294967296 by rfl] at a2
    rw [pw_succ (k + 1)]; exact a2
  have h4 : pw (k + 1) ≤ val zs * 2 ^ s := by
    have : val zs * 1 ≤ val zs * 2 ^ s := Nat.mul_le_mul_left _ (Nat.two_pow_pos s)
    omega
  have h5 := dig_length_le _ _ h3
  have h6 := dig_length_ge _ _ h4
  have h7 : (dig (val zs * 2 ^ s)).length = k + 2 := by omega
  refine ⟨h7, ?_, h3, h1⟩
  rcases canon_dig (val zs * 2 ^ s) with e | e
  · rw [e] at h7; simp at h7
  · rw [h7] at e; exact Nat.pos_of_ne_zero e

theorem ret_two {a b : Option Addr} {n m k l c d : Nat} (h1 : n = m) (h2 : k = l) : Ending.returned (.tuple #[.slice a n c, .slice b k d]) = .returned (.tuple #[.slice a m c, .slice b l d]) := by rw [h1, h2]

/-- the block that make lays, known whole -/
theorem made_row {w w' : World} {n : Nat} (h : w'.ownsRow w.heap.size 35 1 (.slice (some ⟨w.heap.size, 0, none⟩) n n) n (madeCells (Value.int .u32 0).cells (n * 1)).toList) : w'.heap[w.heap.size]? = some (.cells (lits (List.replicate n 0)).toArray 35 (0, 0)) := by
  have e : (madeCells (Value.int .u32 0).cells (n * 1)).toList = lits (List.replicate n 0) := by
    rw [show (Value.int .u32 0).cells = #[Value.int .u32 0] from rfl, toList_madeCells_one, Nat.mul_one]
    simp [lits]
  rw [e] at h
  obtain ⟨h1, h2⟩ := h
  rcases h2 with ⟨h2, _⟩ | ⟨g', cap', cur, hv, hb, hg, hn, hc, hs, ht⟩
  · cases h2
  · cases hv
    have hs' : cur.size = n := by simpa using hs
    have e2 : cur.toList = lits (List.replicate n 0) := by
      rw [← ht, List.take_of_length_le]; simp [hs']
    rw [hg, ← e2]
theorem splice_zeros (xs : List Nat) (n : Nat) : splice (lits (List.replicate n 0)) 0 (lits xs) = lits (xs ++ List.replicate (n - xs.length) 0) := by
  simp [splice, lits]
theorem Own.of_heap {w : World} {b : Nat} {xs : List Nat} (h : w.heap[b]? = some (.cells (lits xs).toArray 35 (0, 0))) : Own w b xs :=
  ⟨_, h, by simp [lits_length], fun j hj => by rw [List.getElem?_toArray, lits_get, if_pos hj]⟩

theorem subM_len (b o m cap f n : Nat) (cs : List Nat) (bo : Option Addr) (cb : Nat) (ns : List Nat) (w : World) (hown : Own w b cs) (hl : Lims cs) (hm : o + m ≤ cs.length) (hmb : m ≤ 1099511627776) (hn : Rd w bo cb ns) (hne : 0 < ns.length → ∀ b' o', bo = some ⟨b', o', none⟩ → b' ≠ b) (hnm : ns.length ≤ m) (hf : f < 4294967296) (hnn : n = ns.length) :
    Calls Tryz.prog 66 #[.slice (some ⟨b, o, none⟩) m cap, .slice bo n cb, .int .u32 (f : Int)] w fun e w' => ∃ (cs' : List Nat) (β c : Nat), e = .returned (.bool (decide (β ≠ 0))) ∧ β ≤ 1 ∧ (ns.length < m → c = 0) ∧ cs'.length = cs.length ∧ Lims cs' ∧
      (∀ j, j < o ∨ o + m ≤ j → lm cs' j = lm cs j) ∧ vs cs' o m + f * val ns = vs cs o m + (β + c) * pw m ∧ Own w' b cs' ∧ w.grownBy w' (some b) ∧ w'.heap.size = w.heap.size := by
  subst hnn; exact subtractMultiple_own b o m cap f cs bo cb ns w hown hl hm hmb hn hne hnm hf
theorem addB_len (b o m cap n : Nat) (cs : List Nat) (bo : Option Addr) (cb : Nat) (ns : List Nat) (w : World) (hown : Own w b cs) (hl : Lims cs) (hm : o + m ≤ cs.length) (hmb : m ≤ 1099511627776) (hn : Rd w bo cb ns) (hne : 0 < ns.length → ∀ b' o', bo = some ⟨b', o', none⟩ → b' ≠ b) (hnm : ns.length ≤ m) (hnn : n = ns.length) :
    Calls Tryz.prog 83 #[.slice (some ⟨b, o, none⟩) m cap, .slice bo n cb] w fun e w' => ∃ (cs' : List Nat) (c : Nat), e = .returned (.tuple #[]) ∧ cs'.length = cs.length ∧ Lims cs' ∧
      (∀ j, j < o ∨ o + m ≤ j → lm cs' j = lm cs j) ∧ vs cs' o m + c * pw m = vs cs o m + val ns ∧ Own w' b cs' ∧ w.grownBy w' (some b) ∧ w'.heap.size = w.heap.size := by
  subst hnn; exact addBack_own b o m cap cs bo cb ns w hown hl hm hmb hn hne hnm
theorem below_of_grown {B b : Nat} {w w1 w2 : World} (h : Below B w w1) (hg : w1.grownBy w2 (some b)) (hB : B ≤ w1.heap.size) (hb : B ≤ b) : Below B w w2 := h.grown hg hB (fun k hk => by cases hk; exact hb)

set_option maxHeartbeats 4000000 in
set_option maxRecDepth 100000 in
theorem divideLong_any (ao bo : Option Addr) (ca cb k : Nat) (us zs : List Nat) (w : World) (ha : Rd w ao ca us) (hb : Rd w bo cb zs) (hk : zs.length = k + 2) (hku : k + 2 ≤ us.length) (ht : 0 < lm zs (k + 1)) (hbig : us.length ≤ 549755813888) :
    Calls Tryz.prog 62 #[.slice ao us.length ca, .slice bo (k + 2) cb] w fun e w' => ∃ qo qc ro rc, e = .returned (.tuple #[.slice qo (dig (val us / val zs)).length qc, .slice ro (dig (val us % val zs)).length rc]) ∧
      Fr w.heap.size w' qo qc (dig (val us / val zs)) ∧ Fr w.heap.size w' ro rc (dig (val us % val zs)) ∧ Below w.heap.size w w' := by
  have hma := ha.max
  have hmb := hb.max
  have hla := ha.le
  have hlb := hb.le
  obtain ⟨b2, o2, rfl, hcb⟩ := hb.at (by omega)
  have d1 := hcb (k + 1) (by omega)
  have hb1 : bl (lm zs (k + 1)) ≤ 32 := bl_le.2 (by have := hb.lims (k + 1); omega)
  have hb0 := bl_pos ht
  obtain ⟨s, hs⟩ : ∃ s, s + bl (lm zs (k + 1)) = 32 := ⟨32 - bl (lm zs (k + 1)), by omega⟩
  have hsi : (32 : Int) - (bl (lm zs (k + 1)) : Nat) = (s : Int) := by omega
  have hs32 : s < 32 := by omega
  obtain ⟨n1, n2, n3, n4⟩ := norm_len hb.lims hk ht hs
  have hlx := hb.lims (k + 1)
  have N1 := Lib.hid n1
  have N2 := Lib.hid n2
  have N3 := Lib.hid n3
  have N4 := Lib.hid n4
  have HK := Lib.hid hk
  obtain ⟨i0, hi, hz0, hz1, hz2⟩ := info_parts infoU32
  have hsize : (Tryz.prog.info? 35).map (·.size) = some 1 := by rw [hi]; simp [hz1]
  obtain ⟨m, hm⟩ : ∃ m, us.length + 1 = m + (k + 2) := ⟨us.length + 1 - (k + 2), by omega⟩
  have hmi : (us.length : Int) - ((k : Int) + 2) + 1 = (m : Int) := by omega
  have HM := Lib.hid hm
  have hmk : (m : Int) ≤ us.length + 1 := by omega
  clear hcb hs n1 n2 n3 n4 hm hk
  go_enter Tryz.func62, Tryz.ntmps62
  go_wp2_with fail
  refine (lz32_any _ _ hlx).mono ?_; rintro e w' ⟨rfl, rfl⟩
  rw [hsi]
  go_wp2_with fail
  refine (shl_len _ _ s _ zs _ hb (by have := HK.out; omega) hs32 HK.out.symm).mono ?_; rintro e w1 ⟨dvo, dvc, rfl, hfd, hb1⟩
  obtain ⟨b0, rfl, hB0, hod⟩ := hfd.block (by rw [N1.out]; omega)
  rw [N1.out]
  obtain ⟨ds, hds⟩ : ∃ ds, ds = dig (val zs * 2 ^ s) := ⟨_, rfl⟩
  rw [← hds] at hod hfd N1 N2
  have hdc := hfd.1
  have hdc2 := hfd.2.1
  rw [N1.out] at hdc
  have hld := hfd.lims
  have hvd : Hid (val ds = val zs * 2 ^ s) := by show _ = _; rw [hds, val_dig]
  clear hds hfd
  have hs1 := hb1.size
  go_wp2_with (at_make; refine wpList_make_full _ rfl _ _ 23 rfl w1.heap.size 35 i0 (.int .u32 0) 1 Tryz.underlying23 hi hz0 hz1 _ _ _ _ (us.length + 1) rfl rfl (by omega) (by omega) (by rw [hz2]; omega) (by unfold maxLen; omega) (Nat.le_refl _) ?_; intro w2 hown hgr)
  have hrow := made_row hown
  clear hown
  have hb2 : Below w1.heap.size w1 w2 := (Below.refl _ _).grown hgr (Nat.le_refl _) (fun k hk => by cases hk)
  have hlt2 : w1.heap.size < w2.heap.size := by
    rcases Nat.lt_or_ge w1.heap.size w2.heap.size with h | h
    · exact h
    · rw [Array.getElem?_eq_none h] at hrow; cases hrow
  obtain ⟨g1, hg1⟩ : ∃ g, g = w1.heap.size := ⟨_, rfl⟩
  rw [← hg1] at hrow hlt2
  have hb0lt := hod.lt
  rw [← hg1] at hb0lt ⊢
  have hg1w : w.heap.size ≤ g1 := by omega
  clear hg1
  have hb02 : Below w.heap.size w w2 := hb1.trans (hb2.mono hs1)
  have ha2 := ha.below hb02
  have hod2 := hod.below hb2 hod.lt
  go_wp2_with fail
  refine (shl_len _ _ s _ us _ ha2 (by omega) hs32 rfl).mono ?_; rintro e w3 ⟨aso, asc, rfl, hfa, hb3⟩
  obtain ⟨av, has⟩ : ∃ av, av = dig (val us * 2 ^ s) := ⟨_, rfl⟩
  rw [← has] at hfa ⊢
  have hal : av.length ≤ us.length + 1 := by
    rw [has]; refine dig_length_le _ _ ?_
    rw [pw_succ]
    have h1 : 2 ^ s ≤ 2 ^ 32 := Nat.pow_le_pow_right (by omega) (by omega)
    exact Nat.mul_lt_mul_of_lt_of_le (val_lt ha.lims) h1 (by omega)
  have hva : Hid (val av = val us * 2 ^ s) := by show _ = _; rw [has, val_dig]
  have hra := hfa.rd
  have hrow3 := (hb3.block g1 hlt2).trans hrow
  have hod3 := hod2.below hb3 hod2.lt
  have hlt3 : g1 < w3.heap.size := Nat.lt_of_lt_of_le hlt2 hb3.size
  have hb03 := hb02.trans (hb3.mono hb02.size)
  clear has hfa hrow hod2 hod
  have hcn : (lits av).length = Nat.min av.length (us.length + 1) := by rw [lits_length]; exact (Nat.min_eq_left hal).symm
  have hfit : 0 + (lits av).length ≤ (lits (List.replicate (us.length + 1) 0)).length := by rw [lits_length, lits_length, List.length_replicate, Nat.zero_add]; exact hal
  have hone : ∀ v ∈ lits av, v.oneCell' = true := by
    intro v hv
    obtain ⟨_, _, rfl⟩ := List.mem_map.1 hv
    rfl
  have HCN := Lib.hid hcn
  clear hcn
  have hpos : 0 < (lits av).length → ∃ ad, aso = some ad ∧ ∀ j v, (lits av)[j]? = some v → w3.cell? (ad.add j) = some v := by
    intro h0
    rw [lits_length] at h0
    obtain ⟨b, o, rfl, hc⟩ := hra.at h0
    refine ⟨_, rfl, fun j v hj => ?_⟩
    rw [lits_get] at hj
    by_cases hl : j < av.length
    · rw [if_pos hl] at hj; cases hj
      rw [Addr.add_lit]; exact hc j hl
    · rw [if_neg hl] at hj; cases hj
  have HPOS := Lib.hid hpos
  have HFIT := Lib.hid hfit
  have HONE := Lib.hid hone
  clear hpos hfit hone
  go_wp2_with (first
    | (at_make; refine wpList_make_full _ rfl _ _ 23 rfl _ 35 i0 (.int .u32 0) 1 Tryz.underlying23 hi hz0 hz1 _ _ _ _ m rfl rfl (by omega) (by omega) (by rw [hz2]; omega) (by unfold maxLen; omega) (Nat.le_refl _) ?_; intro w5 hown5 hgr5)
    | (refine wpList_copy_splice rfl _ _ 23 23 rfl 35 Tryz.underlying23 hsize (some ⟨g1, 0, none⟩) aso (us.length + 1) (us.length + 1) av.length asc rfl rfl g1 0 (lits (List.replicate (us.length + 1) 0)) 35 hrow3 (lits av) HCN.out (fun h0 => ⟨rfl, HPOS.out h0⟩) HFIT.out HONE.out g1 w3 (Below.refl _ _) (Nat.le_refl _) ?_; intro w4 HG hb4))
  have hown5' := Own.made hown5
  have hrow4 := HG.out
  rw [splice_zeros] at hrow4
  have ho1 := Own.of_heap hrow4
  have hb5 : Below w4.heap.size w4 w5 := (Below.refl _ _).grown hgr5 (Nat.le_refl _) (fun k hk => by cases hk)
  have ho1lt := ho1.lt
  have ho1' := ho1.below hb5 ho1lt
  have hod5 := (hod3.below hb4 hb0lt).below hb5 (by omega)
  have hb05 : Below w.heap.size w w5 := (hb03.trans (hb4.mono hg1w)).trans (hb5.mono (by omega))
  obtain ⟨cs0, hcs0⟩ : ∃ cs0, cs0 = av ++ List.replicate (us.length + 1 - av.length) 0 := ⟨_, rfl⟩
  have hl0 : Hid (cs0.length = us.length + 1) := by show _ = _; rw [hcs0, List.length_append, List.length_replicate]; omega
  have hlim0 : Lims cs0 := by rw [hcs0]; exact lims_append hra.lims (lims_replicate _)
  have hv0 : Hid (val cs0 = val us * 2 ^ s) := by show _ = _; rw [hcs0, val_append, val_replicate, Nat.mul_zero, Nat.add_zero]; exact hva.out
  rw [← hcs0] at ho1'
  obtain ⟨g2, hg2⟩ : ∃ g, g = w4.heap.size := ⟨_, rfl⟩
  rw [← hg2] at hown5' hb5 ho1lt ⊢
  have hDlt : val ds < pw (k + 2) := by rw [hvd.out]; exact N3.out
  have hzlt : val us * 2 ^ s < val ds * pw m := by
    rw [hvd.out]
    have h1 : pw us.length ≤ val zs * pw m := by
      have : pw us.length = pw (k + 1) * pw m := by rw [← pw_add]; congr 1; have := HM.out; omega
      rw [this]; exact Nat.mul_le_mul_right _ N4.out
    have h2 : val us * 2 ^ s < pw us.length * 2 ^ s := Nat.mul_lt_mul_of_pos_right (val_lt ha.lims) (Nat.two_pow_pos s)
    have h3 : pw us.length * 2 ^ s ≤ val zs * pw m * 2 ^ s := Nat.mul_le_mul_right _ h1
    have h4 : val zs * pw m * 2 ^ s = val zs * 2 ^ s * pw m := by grind
    omega
  have hstart : val (cs0.drop m) < val ds := by
    have e := vl_split cs0 m (by rw [hl0.out]; have := HM.out; omega)
    rw [hv0.out] at e
    have h1 : pw m * val (cs0.drop m) < pw m * val ds := by rw [Nat.mul_comm (pw m) (val ds)]; omega
    exact Nat.lt_of_mul_lt_mul_left h1
  have DL := Lib.hid hDlt
  have HS := Lib.hid hstart
  have hg12 : g1 ≠ g2 := by omega
  have hb01 : b0 ≠ g1 := by omega
  have hb02' : b0 ≠ g2 := by omega
  have hgw2 : w.heap.size ≤ g2 := by omega
  clear hg2 hown5 hgr5 hrow4 HG ho1 hb4 hb5 hcs0 hrow3 hod3 hra
  go_loopw [42] (fun s42 wr => ∃ (i : Nat) (cs qs : List Nat), i ≤ m ∧ s42 = .int .i64 i ∧ Hid (cs.length = us.length + 1) ∧ Hid (qs.length = m) ∧ Lims cs ∧ Lims qs ∧ Own wr g1 cs ∧ Own wr g2 qs ∧ Own wr b0 ds ∧ Below w.heap.size w wr ∧ Hid (∀ j, j + i < m → lm qs j = 0) ∧
      Hid (val qs * val ds + val cs = val us * 2 ^ s) ∧ Hid (val (cs.drop (m - i)) < val ds)) (fun s42 _ => m - (intOf s42).toNat)
  case atStart => exact ⟨0, cs0, _, by omega, rfl, hl0.out, List.length_replicate .., hlim0, lims_replicate _, ho1', hown5', hod5, hb05, fun j _ => lm_replicate _ _, by show _ = _; rw [val_replicate, Nat.zero_mul, Nat.zero_add]; exact hv0.out, HS.out⟩
  case round =>
    obtain ⟨i, cs, qs, hi, rfl, hlen, hlq, hlc, hlqs, hoc, hoq, hod, hbl, hzero, hv, hdrop⟩ := hrel
    by_cases hlt : i < m
    · obtain ⟨p, hp⟩ : ∃ p, p + i + 1 = m := ⟨m - 1 - i, by omega⟩
      have hpi : (m : Int) - 1 - (i : Int) = (p : Int) := by omega
      have hpu : p + (k + 3) ≤ us.length + 1 := by have := HM.out; omega
      have hpn : p + (k + 2) + 1 - p = k + 3 := by omega
      obtain ⟨q1, q2, q3⟩ := div_next (cs := cs) (p := p) (by rw [hlen.out]; omega) DL.out (by have := hdrop.out; rwa [show m - i = p + 1 by omega] at this) (hlc p)
      rw [q2] at q1
      have Q1 := Lib.hid q1
      have Q3 := Lib.hid q3
      have HP := Lib.hid hp
      have hpm : p < m := by omega
      have hz := Lib.hid (hzero.out p (by omega))
      have hmi2 := Lib.hid (show m - (i + 1) = p by omega)
      clear hp q1 q2 q3
      go_wp2_with fail
      refine (quotientDigit_any g1 p _ k cs _ dvc ds wr hoc hlc (by rw [hlen.out]; exact hpu) (by rw [hlen.out]; omega) (hod.rd hld dvc (by rw [N1.out]; exact hdc) hdc2) N1.out N2.out Q1.out).mono ?_
      rintro e w6 ⟨d, rfl, hd1, hd2, hd3, hb6⟩
      have hs6 := hb6.size
      have HD2 := Lib.hid hd2
      have HD3 := Lib.hid hd3
      replace hbl := hbl.trans (hb6.mono hbl.size)
      replace hoc := hoc.below hb6 hoc.lt
      replace hoq := hoq.below hb6 hoq.lt
      replace hod := hod.below hb6 hod.lt
      clear hd2 hd3 hb6 hs6
      go_wp2_with fail
      refine (subM_len g1 p (k + 3) _ d (k + 2) cs _ dvc ds w6 hoc hlc (by rw [hlen.out]; exact hpu) (by omega) (hod.rd hld dvc (by rw [N1.out]; exact hdc) hdc2) (fun _ b' o' e => by cases e; exact hb01) (by rw [N1.out]; omega) hd1 N1.out.symm).mono ?_
      rintro e w7 ⟨cs1, β, c, rfl, hβ, hc0, k1, k2, k3, k4, k5, k6, k7⟩
      obtain rfl : c = 0 := hc0 (by rw [N1.out]; omega)
      replace hbl := below_of_grown hbl k6 hbl.size hg1w
      replace hoq := hoq.grown k6 (fun e => hg12 (by cases e; rfl))
      replace hod := hod.grown k6 (fun e => hb01 (by cases e; rfl))
      clear k6 k7 hc0 hoc
      have hV := vs_lt k2 p (k + 3)
      have K1 := Lib.hid (k1.trans hlen.out)
      have K3 := Lib.hid k3
      have fin : ∀ (d' : Nat) (cs' : List Nat), d' < 4294967296 → cs'.length = cs.length → Lims cs' → (∀ j, j < p ∨ p + (k + 3) ≤ j → lm cs' j = lm cs j) → vs cs' p (k + 3) + d' * val ds = vs cs p (k + 3) → vs cs' p (k + 3) < val ds →
          Hid (cs'.length = us.length + 1) ∧ Hid ((qs.set p d').length = m) ∧ Lims (qs.set p d') ∧ Hid (∀ j, j + (i + 1) < m → lm (qs.set p d') j = 0) ∧ Hid (val (qs.set p d') * val ds + val cs' = val us * 2 ^ s) ∧ Hid (val (cs'.drop (m - (i + 1))) < val ds) := by
        intro d' cs' e1 e2 e3 e4 e5 e6
        have hpq : p < qs.length := by rw [hlq.out]; have := HP.out; omega
        have hpc : p + (k + 3) ≤ cs.length := by rw [hlen.out]; exact hpu
        refine ⟨e2.trans hlen.out, (List.length_set ..).trans hlq.out, lims_set hlqs _ _ e1, fun j hj => ?_, div_round e2 hpc e4 e5 hpq hz.out hv.out, ?_⟩
        · have := HP.out
          rw [lm_set _ _ _ _ hpq, if_neg (by omega)]; exact hzero.out j (by omega)
        · show _ < _
          rw [hmi2.out]; exact div_drop e2 hpc e4 Q3.out e6
      have FIN := Lib.hid fin
      have hpq : p < qs.length := by rw [hlq.out]; have := HP.out; omega
      have K4 := Lib.hid k4
      have HV := Lib.hid hV
      clear fin k1 k3 k4 hV
      rcases Nat.lt_or_ge 0 β with hβ1 | hβ0
      · obtain rfl : β = 1 := by omega
        have hdp : 1 ≤ d := by
          rcases Nat.eq_zero_or_pos d with e | e
          · have h1 := K4.out; have h2 := HV.out; rw [e] at h1; omega
          · exact e
        go_wp2_with fail
        refine (addB_len g1 p (k + 3) _ (k + 2) cs1 _ dvc ds w7 k5 k2 (by rw [K1.out]; exact hpu) (by omega) (hod.rd hld dvc (by rw [N1.out]; exact hdc) hdc2) (fun _ b' o' e => by cases e; exact hb01) (by rw [N1.out]; omega) N1.out.symm).mono ?_
        rintro e w8 ⟨cs2, c, rfl, l1, l2, l3, l4, l5, l6, l7⟩
        replace hbl := below_of_grown hbl l6 hbl.size hg1w
        replace hoq := hoq.grown l6 (fun e => hg12 (by cases e; rfl))
        replace hod := hod.grown l6 (fun e => hb01 (by cases e; rfl))
        have hDP : val ds < pw (k + 3) := Nat.lt_of_lt_of_le DL.out (pw_mono (by omega))
        obtain ⟨_, r1, r2⟩ := fix_one K4.out HV.out (vs_lt l2 p (k + 3)) hDP HD2.out l4
        obtain ⟨f1, f2, f3, f4, f5, f6⟩ := FIN.out (d - 1) cs2 (by omega) (l1.trans (K1.out.trans hlen.out.symm)) l2 (fun j hj => (l3 j hj).trans (K3.out j hj)) r1 r2
        have hcell := hoq.cell (j := p) hpq
        have hfro := hoq.frozen p
        have hoq2 := hoq.setCell (j := p) hpq (d - 1)
        have e1 : ((d - 1 : Nat) : Int) = (d : Int) - 1 := by omega
        rw [e1] at hoq2
        clear r1 r2 l1 l3 l4 l6 l7 e1 hDP
        go_wp2_with fail
        go_roundw
        case rel => exact ⟨i + 1, cs2, _, by omega, by go_num, f1, f2, l2, f3, l5.block (Below.heap_setCell _ _ _ _ (fun e => hg12 e)), hoq2, hod.block (Below.heap_setCell _ _ _ _ (fun e => hb02' e)), hbl.setCell hgw2 _, f4, f5, f6⟩
        case measure => simp [intOf]; omega
      · obtain rfl : β = 0 := by omega
        obtain ⟨r1, r2⟩ := fix_none K4.out HD3.out
        obtain ⟨f1, f2, f3, f4, f5, f6⟩ := FIN.out d cs1 hd1 (K1.out.trans hlen.out.symm) k2 K3.out r1 r2
        have hcell := hoq.cell (j := p) hpq
        have hfro := hoq.frozen p
        have hoq2 := hoq.setCell (j := p) hpq d
        clear r1 r2
        go_wp2_with fail
        go_roundw
        case rel => exact ⟨i + 1, cs1, _, by omega, by go_num, f1, f2, k2, f3, k5.block (Below.heap_setCell _ _ _ _ (fun e => hg12 e)), hoq2, hod.block (Below.heap_setCell _ _ _ _ (fun e => hb02' e)), hbl.setCell hgw2 _, f4, f5, f6⟩
        case measure => simp [intOf]; omega
    · obtain rfl : i = m := by omega
      have hR : val cs < val zs * 2 ^ s := by
        have h1 := hdrop.out
        rwa [Nat.sub_self, List.drop_zero, hvd.out] at h1
      have hE := hv.out
      rw [hvd.out] at hE
      obtain ⟨e1, e2⟩ := div_end hE hR (Nat.two_pow_pos s)
      have E2 := Lib.hid e2
      have htq := trim_dig hlqs
      rw [e1] at htq
      have T := Lib.hid htq
      have hfq := Fr.of_own hoq hlqs hgw2 i (by rw [hlq.out]; exact Nat.le_refl _) (by omega)
      have hrc := hoc.rd hlc (us.length + 1) (by rw [hlen.out]; exact Nat.le_refl _) (by omega)
      clear hR hE e1 e2 htq
      go_wp2_with fail
      refine (significant_len _ _ _ _ hfq.rd _ hlq.out.symm).mono ?_; rintro e w' ⟨rfl, rfl⟩
      go_wp2_with fail
      refine (shr_len _ _ s _ cs _ hrc (by rw [hlen.out]; omega) hs32 hlen.out.symm).mono ?_; rintro e w9 ⟨ro, rc, rfl, hfr, hb9⟩
      rw [E2.out] at hfr ⊢
      go_wp2_with fail
      go_ret2
      have hfq2 := hfq.trim.below hb9
      rw [T.out] at hfq2
      exact ⟨_, _, _, _, ret_two (congrArg List.length T.out) rfl, hfq2, hfr.mono hbl.size, hbl.trans (hb9.mono hbl.size)⟩
end Go.Proofs.YtdcnkebcpaelpaaGreatDoor
