import Derived.Test.YtdcnkebcpaelpaaGreatDoorNats
import Derived.Test.YtdcnkebcpaelpaaGreatDoorMaths
import Derived.Deep.QuietTactic
import Derived.BigQuiet
import Derived.StillTailTactics
import Derived.Deep.RegionWith
/- Contracts of package natural: the difference and the product. -/
namespace Go.Proofs.YtdcnkebcpaelpaaGreatDoor
open Go.RowKit

theorem Rd.grown0 {w w' : World} {ao : Option Addr} {cap : Nat} {xs : List Nat} {row : Option Nat} (h : Rd w ao cap xs) (hg : w.grownBy w' row) (hne : 0 < xs.length → ∀ b o, ao = some ⟨b, o, none⟩ → some b ≠ row) : Rd w' ao cap xs := by
  by_cases h0 : 0 < xs.length
  · exact h.grown hg (hne h0)
  · have e : xs = [] := List.eq_nil_of_length_eq_zero (by omega)
    subst e
    refine ⟨h.1, h.2.1, h.2.2.1, .inl ⟨rfl, fun k => ?_⟩⟩
    subst k
    exact h.none_nil.2
theorem ret_bool {a b : Bool} (h : a = b) : Ending.returned (.bool a) = .returned (.bool b) := by rw [h]

set_option maxHeartbeats 1000000 in
set_option maxRecDepth 100000 in
theorem subtractMultiple_own (b o m cap f : Nat) (cs : List Nat) (bo : Option Addr) (cb : Nat) (ns : List Nat) (w : World) (hown : Own w b cs) (hl : Lims cs) (hm : o + m ≤ cs.length) (hmb : m ≤ 1099511627776) (hn : Rd w bo cb ns) (hne : 0 < ns.length → ∀ b' o', bo = some ⟨b', o', none⟩ → b' ≠ b) (hnm : ns.length ≤ m) (hf : f < 4294967296) :
    Calls Tryz.prog 66 #[.slice (some ⟨b, o, none⟩) m cap, .slice bo ns.length cb, .int .u32 (f : Int)] w fun e w' => ∃ (cs' : List Nat) (β c : Nat), e = .returned (.bool (decide (β ≠ 0))) ∧ β ≤ 1 ∧ (ns.length < m → c = 0) ∧ cs'.length = cs.length ∧ Lims cs' ∧
      (∀ j, j < o ∨ o + m ≤ j → lm cs' j = lm cs j) ∧ vs cs' o m + f * val ns = vs cs o m + (β + c) * pw m ∧ Own w' b cs' ∧ w.grownBy w' (some b) ∧ w'.heap.size = w.heap.size := by
  have hmc := hn.max
  have hlc := hn.le
  go_enter Tryz.func66, Tryz.ntmps66
  go_wp2
  go_loopw [7, 8, 13] (fun s7 s8 s13 wr => ∃ (i c β : Nat) (ds : List Nat), i ≤ m ∧ s7 = .int .u64 c ∧ s8 = .int .u64 β ∧ s13 = .int .i64 i ∧ c < 4294967296 ∧ β ≤ 1 ∧ Hid (ns.length < i → c = 0) ∧ Hid (ds.length = cs.length) ∧ Lims ds ∧ Own wr b ds ∧ w.grownBy wr (some b) ∧ Hid (wr.heap.size = w.heap.size) ∧
      Hid (∀ j, j < o ∨ o + i ≤ j → lm ds j = lm cs j) ∧ Hid (vs ds o i + f * vl ns i = vs cs o i + (β + c) * pw i)) (fun _ _ s13 _ => m - (intOf s13).toNat)
  case atStart => exact ⟨0, 0, 0, cs, by omega, rfl, rfl, rfl, by omega, by omega, fun _ => rfl, rfl, hl, hown, World.grownBy.refl _ _, rfl, fun j _ => rfl, by show _ = _; simp [vs, vl]⟩
  case round =>
    obtain ⟨i, c, β, ds, hi, rfl, rfl, rfl, hc, hβ, hc0, hlen, hld, hownr, hg, hsz, hlow, hv⟩ := hrel
    by_cases hlt : i < m
    · have hnr : Rd wr bo cb ns := hn.grown0 hg (fun h0 b' o' e h => hne h0 b' o' e (Option.some.inj h))
      have hx := hn.lims i
      have ht := hld (o + i)
      have hcell := hownr.cell (j := o + i) (by rw [hlen.out]; omega)
      have hfro := hownr.frozen (o + i)
      obtain ⟨t, htd⟩ : ∃ t, t = lm ds (o + i) := ⟨_, rfl⟩
      rw [← htd] at hcell ht
      obtain ⟨n, hnd⟩ : ∃ n, n = lm ns i := ⟨_, rfl⟩
      rw [← hnd] at hx
      obtain ⟨p, hp⟩ : ∃ p, p = n * f := ⟨_, rfl⟩
      have hpb := mul_le_limb hx hf
      rw [← hp] at hpb
      have hpm : (n : Int) * (f : Int) = (p : Int) := by rw [hp]; exact (Int.natCast_mul n f).symm
      obtain ⟨d, hd⟩ : ∃ d, d = (c + p) % 4294967296 := ⟨_, rfl⟩
      have hand : bits BinOp.and IntKind.u64 ((c : Int) + (p : Int)) 4294967295 = (d : Int) := by
        rw [← Int.natCast_add, and_mask (c + p) (by omega), hd]
      obtain ⟨x1, hx1⟩ : ∃ x1, x1 = (18446744073709551616 + t - d) % 18446744073709551616 := ⟨_, rfl⟩
      have hw1 : IntKind.u64.wrap ((t : Int) - (d : Int)) = (x1 : Int) := by rw [IntKind.wrap_u64]; omega
      obtain ⟨r, hr⟩ : ∃ r, r = (18446744073709551616 + x1 - β) % 18446744073709551616 := ⟨_, rfl⟩
      have hw2 : IntKind.u64.wrap ((x1 : Int) - (β : Int)) = (r : Int) := by rw [IntKind.wrap_u64]; omega
      have hrb : (r : Int) ≤ 18446744073709551615 := by omega
      have H1 := Lib.hid htd
      have H2 := Lib.hid hnd
      have H3 := Lib.hid hp
      have H4 := Lib.hid hd
      have H5 := Lib.hid hx1
      have H6 := Lib.hid hr
      clear htd hnd hp hd hx1 hr
      go_wp2_with fail
      refine (limb_any _ _ i _ _ hnr _ (by omega)).mono ?_; rintro e w' ⟨rfl, rfl⟩
      rw [← H2.out]
      go_wp2_with fail
      have e1 : ((r : Int) % 4294967296) = ((r % 4294967296 : Nat) : Int) := by omega
      have hown2 := hownr.setCell (j := o + i) (by rw [hlen.out]; omega) (r % 4294967296)
      rw [← e1] at hown2
      have hdb : d < 4294967296 := by rw [H4.out]; exact Nat.mod_lt _ (by omega)
      have hk1 : o + i < ds.length := by rw [hlen.out]; omega
      have h6 := H6.out
      have h5 := H5.out
      have hstep : t + (r / 9223372036854775808) * 4294967296 = r % 4294967296 + d + β := by omega
      have hcar : c + p = d + 4294967296 * ((c + p) / 4294967296) := by rw [H4.out]; omega
      have hz : ns.length < i + 1 → (c + p) / 4294967296 = 0 := fun h => by
        have hn0 : n = 0 := by rw [H2.out]; exact lm_ge _ _ (by omega)
        have hp0 : p = 0 := by rw [H3.out, hn0]; exact Nat.zero_mul _
        rw [hp0]; omega
      clear h6 h5
      go_roundw
      case rel => exact ⟨i + 1, (c + p) / 4294967296, r / 9223372036854775808, _, by omega, by go_num, by go_num, by go_num, by omega, by omega, hz, (List.length_set ..).trans hlen.out, lims_set hld _ _ (Nat.mod_lt _ (by omega)), hown2, grownBy_set hg _ _, (World.size_setCell _ _ _).trans hsz.out,
        fun j hj => by rw [lm_set _ _ _ _ hk1, if_neg (by omega)]; exact hlow.out j (by omega), by
        show _ = _
        rw [vs, vs_set_ge _ _ _ _ _ (Nat.le_refl _), lm_set _ _ _ _ hk1, if_pos rfl, vl, vs, pw_succ, ← H2.out, ← hlow.out (o + i) (by omega), ← H1.out]
        exact sub_step _ _ _ _ _ _ _ _ _ _ _ _ _ _ hv.out H3.out.symm hcar hstep⟩
      case measure => simp [intOf]; omega
    · obtain rfl : i = m := by omega
      have hvn := vl_ge ns i hnm
      have hv2 := hv.out
      rw [hvn] at hv2
      have V := Lib.hid hv2
      clear hvn hv2
      rcases Nat.lt_or_ge 0 β with hb | hb
      · obtain rfl : β = 1 := by omega
        go_wp2
        go_ret
        exact ⟨ds, 1, c, ret_bool rfl, by omega, hc0.out, hlen.out, hld, hlow.out, V.out, hownr, hg, hsz.out⟩
      · obtain rfl : β = 0 := by omega
        go_wp2
        go_ret
        exact ⟨ds, 0, c, ret_bool rfl, by omega, hc0.out, hlen.out, hld, hlow.out, V.out, hownr, hg, hsz.out⟩

set_option maxHeartbeats 400000 in
theorem subtractMultiple_nil (v : Value) (f : Int) (w : World) : Calls Tryz.prog 66 #[.slice none 0 0, v, .int .u32 f] w fun e w' => e = .returned (.bool false) ∧ w = w' := by
  go_enter Tryz.func66, Tryz.ntmps66
  go_wp2
  refine wp_loop_rounds 1 ?_
  rw [rounds_succ]
  go_wp2
  go_ret
  exact ⟨rfl, rfl⟩

theorem ret_nat_bool {ao : Option Addr} {n m cap : Nat} {p : Bool} (h : n = m) : Ending.returned (.tuple #[.slice ao n cap, .bool p]) = .returned (.tuple #[.slice ao m cap, .bool p]) := by rw [h]

set_option maxHeartbeats 1000000 in
set_option maxRecDepth 100000 in
theorem Sub_less (ao bo : Option Addr) (ca cb : Nat) (xs ys : List Nat) (w : World) (ha : Rd w ao ca xs) (hb : Rd w bo cb ys) (h : val xs < val ys) :
    Calls Tryz.prog 48 #[.slice ao xs.length ca, .slice bo ys.length cb] w fun e w' => e = .returned (.tuple #[.slice none 0 0, .bool false]) ∧ w = w' := by
  have hc := Lib.hid (cmpn_lt h)
  clear h
  go_enter Tryz.func48, Tryz.ntmps48
  go_wp2_with fail
  refine (Compare_any _ _ _ _ _ _ _ ha hb).mono ?_; rintro e w' ⟨rfl, rfl⟩
  rw [hc.out]
  go_wp2
  go_ret2
  exact ⟨rfl, rfl⟩

theorem sub_end {ds cs ns : List Nat} {m β c : Nat} (hd : Lims ds) (h : vs ds 0 m + 1 * val ns = vs cs 0 m + (β + c) * pw m) (h1 : cs.length = m) (h2 : ds.length = m) (hle : val ns ≤ val cs) : val ds = val cs - val ns := by
  rw [vs_zero, vs_zero, ← h1, vl_all, h1, ← h2, vl_all] at h
  have h3 := val_lt hd
  rcases Nat.eq_zero_or_pos (β + c) with e | e
  · rw [e] at h; omega
  · have h4 : 1 * pw ds.length ≤ (β + c) * pw ds.length := Nat.mul_le_mul_right _ e
    omega

set_option maxHeartbeats 1000000 in
set_option maxRecDepth 100000 in
theorem Sub_any (ao bo : Option Addr) (ca cb : Nat) (xs ys : List Nat) (w : World) (ha : Rd w ao ca xs) (hb : Rd w bo cb ys) (h : val ys ≤ val xs) (hx : xs.length ≤ 1099511627776) :
    Calls Tryz.prog 48 #[.slice ao xs.length ca, .slice bo ys.length cb] w fun e w' => ∃ ao' cap', e = .returned (.tuple #[.slice ao' (dig (val xs - val ys)).length cap', .bool true]) ∧ Fr w.heap.size w' ao' cap' (dig (val xs - val ys)) ∧ Below w.heap.size w w' := by
  have hc0 : 0 ≤ cmpn (val xs) (val ys) := by
    rcases Nat.lt_or_eq_of_le h with e | e
    · rw [cmpn_gt e]; omega
    · rw [cmpn_eq e.symm]; exact Int.le_refl 0
  have hdl := dig_length_val ha.lims
  have hty := trim_dig hb.lims
  have hly : (trim ys).length ≤ (dig (val xs)).length := by rw [hty]; exact dig_mono h
  have hvy : val (trim ys) ≤ val (dig (val xs)) := by rw [val_trim, val_dig]; exact h
  have hm := hb.max
  have hle := hb.le
  have hlt := trim_length_le ys
  have Hty := Lib.hid hty
  clear hty
  go_enter Tryz.func48, Tryz.ntmps48
  go_wp2_with fail
  refine (Compare_any _ _ _ _ _ _ _ ha hb).mono ?_; rintro e w' ⟨rfl, rfl⟩
  go_wp2_with fail
  refine (Trim_any _ _ _ _ ha hx).mono ?_; rintro e w1 ⟨ao1, cap1, rfl, hf, hbl⟩
  have hb1 := hb.below hbl
  have hs1 := hbl.size
  obtain ⟨h1, h2, h3, h4⟩ := hf
  rcases h4 with ⟨rfl, h5, rfl⟩ | ⟨b, rfl, hBb, hown⟩
  · have hv0 : val xs = 0 := by rw [← val_dig (val xs), h5]; rfl
    have hz : Hid (dig (val xs - val ys) = []) := by show _ = _; rw [hv0, Nat.zero_sub]; rfl
    have hl0 := Lib.hid (congrArg List.length h5)
    clear h5 hv0
    rw [hl0.out]
    go_wp2_with fail
    refine (significant_any _ _ _ _ hb1).mono ?_; rintro e w' ⟨rfl, rfl⟩
    go_wp2_with fail
    refine (subtractMultiple_nil _ _ _).mono ?_; rintro e w' ⟨rfl, rfl⟩
    go_wp2_with fail
    refine (significant_len none 0 [] _ (Rd.nil _) 0 rfl).mono ?_; rintro e w' ⟨rfl, rfl⟩
    go_wp2_with fail
    go_ret2
    rw [hz.out]
    exact ⟨none, 0, rfl, Fr.nil _ _, hbl⟩
  · go_wp2_with fail
    refine (significant_any _ _ _ _ hb1).mono ?_; rintro e w' ⟨rfl, rfl⟩
    go_wp2_with fail
    refine (subtractMultiple_own b 0 _ cap1 1 (dig (val xs)) _ _ _ _ hown h3 (by omega) (by omega) hb1.trim (fun h0 b' o' e => by
      subst e
      have := Rd.lt hb (by omega)
      omega) hly (by omega)).mono ?_
    rintro e w2 ⟨ds, β, c, rfl, hβ, _, k1, k2, _, k4, k5, k6, k7⟩
    have K1 := Lib.hid k1
    have hfd := Fr.of_own (B := w.heap.size) k5 k2 hBb cap1 (by rw [k1]; exact h1) h2
    have hbl2 : Below w.heap.size w w2 := hbl.grown k6 hs1 (fun k hk => by cases hk; exact hBb)
    have hval := sub_end k2 k4 rfl k1 hvy
    rw [val_dig, val_trim] at hval
    have ht := trim_dig k2
    rw [hval] at ht
    have T := Lib.hid ht
    clear ht hval k1 k4 k6 k7
    go_wp2_with fail
    refine (significant_len _ _ _ _ hfd.rd _ K1.out.symm).mono ?_; rintro e w' ⟨rfl, rfl⟩
    go_wp2_with fail
    go_ret2
    have hf2 := hfd.trim
    rw [T.out] at hf2
    exact ⟨_, cap1, ret_nat_bool (congrArg List.length T.out), hf2, hbl2⟩
end Go.Proofs.YtdcnkebcpaelpaaGreatDoor
/- Contracts of package natural: the product. -/
namespace Go.Proofs.YtdcnkebcpaelpaaGreatDoor
open Go.RowKit

theorem Own.drewN {w : World} {b : Nat} {cs : List Nat} (h : Own w b cs) (n : Nat) : Own (w.drewN n) b cs := h.block rfl
theorem grownBy_drewN {w w' : World} {row : Option Nat} (h : w.grownBy w' row) (n : Nat) : w.grownBy (w'.drewN n) row := grownBy_trans h ⟨rfl, rfl, rfl, Nat.le_refl _, fun _ _ _ => rfl⟩
theorem size_drewN (w : World) (n : Nat) : (w.drewN n).heap.size = w.heap.size := rfl
theorem Rd.drewN {w : World} {ao : Option Addr} {cap : Nat} {xs : List Nat} (h : Rd w ao cap xs) (n : Nat) : Rd (w.drewN n) ao cap xs := h.cells fun _ _ _ _ _ => rfl

set_option maxHeartbeats 1000000 in
set_option maxRecDepth 100000 in
theorem addMultiple_own (b o m cap f : Nat) (cs : List Nat) (bo : Option Addr) (cb : Nat) (ns : List Nat) (w : World) (hown : Own w b cs) (hl : Lims cs) (hm : o + m ≤ cs.length) (hmb : m ≤ 1099511627776) (hn : Rd w bo cb ns) (hne : 0 < ns.length → ∀ b' o', bo = some ⟨b', o', none⟩ → b' ≠ b) (hnm : ns.length < m) (hf : f < 4294967296) (hz : lm cs (o + ns.length) = 0) :
    Calls Tryz.prog 40 #[.slice (some ⟨b, o, none⟩) m cap, .slice bo ns.length cb, .int .u32 (f : Int)] w fun e w' => ∃ (cs' : List Nat), e = .returned (.tuple #[]) ∧ cs'.length = cs.length ∧ Lims cs' ∧
      (∀ j, j < o ∨ o + ns.length < j → lm cs' j = lm cs j) ∧ vs cs' o (ns.length + 1) = vs cs o (ns.length + 1) + f * val ns ∧ Own w' b cs' ∧ w.grownBy w' (some b) ∧ w'.heap.size = w.heap.size := by
  have hmc := hn.max
  have hlc := hn.le
  go_enter Tryz.func40, Tryz.ntmps40
  go_wp2
  go_loopw [6, 10] (fun s6 s10 wr => ∃ (i c : Nat) (ds : List Nat), i ≤ ns.length ∧ s6 = .int .u64 c ∧ s10 = .int .i64 i ∧ c < 4294967296 ∧ Hid (ds.length = cs.length) ∧ Lims ds ∧ Own wr b ds ∧ w.grownBy wr (some b) ∧ Hid (wr.heap.size = w.heap.size) ∧
      Hid (∀ j, j < o ∨ o + i ≤ j → lm ds j = lm cs j) ∧ Hid (vs ds o i + c * pw i = f * vl ns i + vs cs o i)) (fun _ s10 _ => ns.length - (intOf s10).toNat)
  case atStart => exact ⟨0, 0, cs, by omega, rfl, rfl, by omega, rfl, hl, hown, World.grownBy.refl _ _, rfl, fun j _ => rfl, by show _ = _; simp [vs, vl]⟩
  case round =>
    obtain ⟨i, c, ds, hi, rfl, rfl, hc, hlen, hld, hownr, hg, hsz, hlow, hv⟩ := hrel
    by_cases hlt : i < ns.length
    · have hnr : Rd wr bo cb ns := hn.grown0 hg (fun h0 b' o' e h => hne h0 b' o' e (Option.some.inj h))
      obtain ⟨b2, o2, rfl, hcn⟩ := hnr.at (by omega)
      have hcn1 := hcn i hlt
      have hx := hn.lims i
      have ht := hld (o + i)
      have hcell := hownr.cell (j := o + i) (by rw [hlen.out]; omega)
      have hfro := hownr.frozen (o + i)
      obtain ⟨t, htd⟩ : ∃ t, t = lm ds (o + i) := ⟨_, rfl⟩
      rw [← htd] at hcell ht
      obtain ⟨n, hnd⟩ : ∃ n, n = lm ns i := ⟨_, rfl⟩
      rw [← hnd] at hx hcn1
      have hpb := mul_le_limb hx hf
      obtain ⟨p, hp⟩ : ∃ p, p = n * f := ⟨_, rfl⟩
      rw [← hp] at hpb
      have hw1 : IntKind.u64.wrap ((n : Int) * (f : Int)) = (p : Int) := by rw [← Int.natCast_mul, ← hp, IntKind.wrap_u64]; omega
      have hw2 : IntKind.u64.wrap ((p : Int) + (t : Int)) = ((p + t : Nat) : Int) := by rw [IntKind.wrap_u64]; omega
      obtain ⟨s, hs⟩ : ∃ s, s = c + (p + t) := ⟨_, rfl⟩
      have hw3 : IntKind.u64.wrap ((c : Int) + ((p + t : Nat) : Int)) = (s : Int) := by rw [IntKind.wrap_u64]; omega
      obtain ⟨q, hq⟩ : ∃ q, q = p + t := ⟨_, rfl⟩
      rw [← hq] at hw2 hw3
      have hsb : (s : Int) ≤ 18446744073709551615 := by omega
      have H1 := Lib.hid htd
      have H2 := Lib.hid hnd
      have H3 := Lib.hid hp
      have H4 := Lib.hid hs
      have hsd : s / 4294967296 < 4294967296 := by omega
      clear htd hnd hp hs hq hcn
      go_wp2_with fail
      go_quiet (fail)
      go_wp2_with fail
      have e1 : ((s : Int) % 4294967296) = ((s % 4294967296 : Nat) : Int) := by omega
      have hown2 := (hownr.drewN nq).setCell (j := o + i) (by rw [hlen.out]; omega) (s % 4294967296)
      rw [← e1] at hown2
      have hk1 : o + i < ds.length := by rw [hlen.out]; omega
      have hstep : c + (n * f + t) = s % 4294967296 + 4294967296 * (s / 4294967296) := by rw [← H3.out, ← H4.out]; omega
      go_roundw
      case rel => exact ⟨i + 1, s / 4294967296, _, by omega, by go_num, by go_num, hsd, (List.length_set ..).trans hlen.out, lims_set hld _ _ (Nat.mod_lt _ (by omega)), hown2, grownBy_set (grownBy_drewN hg _) _ _, (World.size_setCell _ _ _).trans hsz.out,
        fun j hj => by rw [lm_set _ _ _ _ hk1, if_neg (by omega)]; exact hlow.out j (by omega), by
        show _ = _
        rw [vs, vs_set_ge _ _ _ _ _ (Nat.le_refl _), lm_set _ _ _ _ hk1, if_pos rfl, vl, vs, pw_succ, ← H2.out, ← hlow.out (o + i) (by omega), ← H1.out]
        exact mul_step _ _ _ _ _ _ _ _ _ _ hv.out hstep⟩
      case measure => simp [intOf]; omega
    · obtain rfl : i = ns.length := by omega
      have hcell := hownr.cell (j := o + ns.length) (by rw [hlen.out]; omega)
      have hfro := hownr.frozen (o + ns.length)
      have hk1 : o + ns.length < ds.length := by rw [hlen.out]; omega
      have hown2 := hownr.setCell (j := o + ns.length) hk1 c
      go_wp2
      go_end0
      exact ⟨_, rfl, (List.length_set ..).trans hlen.out, lims_set hld _ _ hc, fun j hj => by rw [lm_set _ _ _ _ hk1, if_neg (by omega)]; exact hlow.out j (by omega), by
        have h1 := hv.out
        rw [vl_all] at h1
        rw [vs, vs_set_ge _ _ _ _ _ (Nat.le_refl _), lm_set _ _ _ _ hk1, if_pos rfl, vs, hz]
        omega, hown2, grownBy_set hg _ _, (World.size_setCell _ _ _).trans hsz.out⟩
end Go.Proofs.YtdcnkebcpaelpaaGreatDoor
/- Contract of natural.Mul. -/
namespace Go.Proofs.YtdcnkebcpaelpaaGreatDoor
open Go.RowKit

theorem mul_round {cs ds xs : List Nat} {i ly Y : Nat} (h1 : vl cs (i + ly) = vl xs i * Y) (h2 : lm cs (i + ly) = 0) (h3 : vs ds i (ly + 1) = vs cs i (ly + 1) + lm xs i * Y) (h4 : vl ds i = vl cs i) : vl ds (i + 1 + ly) = vl xs (i + 1) * Y := by
  have e1 := vl_split_vs ds i (ly + 1)
  have e2 := vl_split_vs cs i (ly + 1)
  have e3 : vl cs (i + (ly + 1)) = vl cs (i + ly) + lm cs (i + ly) * pw (i + ly) := rfl
  rw [h2, Nat.zero_mul, Nat.add_zero, h1] at e3
  rw [show i + 1 + ly = i + (ly + 1) by omega, e1, h3, h4, vl]
  rw [e3] at e2
  have e4 : vl xs i * Y + pw i * (lm xs i * Y) = (vl xs i + lm xs i * pw i) * Y := by grind
  rw [Nat.add_zero] at e2
  rw [← e4, e2]; grind

set_option maxHeartbeats 2000000 in
set_option maxRecDepth 100000 in
theorem Mul_any (ao bo : Option Addr) (ca cb : Nat) (xs ys : List Nat) (w : World) (ha : Rd w ao ca xs) (hb : Rd w bo cb ys) (hx : xs.length ≤ 549755813888) (hy : ys.length ≤ 549755813888) :
    Calls Tryz.prog 19 #[.slice ao xs.length ca, .slice bo ys.length cb] w fun e w' => ∃ ao' cap', e = .returned (.slice ao' (dig (val xs * val ys)).length cap') ∧ Fr w.heap.size w' ao' cap' (dig (val xs * val ys)) ∧ Below w.heap.size w w' := by
  have hma := ha.max
  have hmb := hb.max
  have hla := ha.le
  have hlb := hb.le
  have hlx := trim_length_le xs
  have hly := trim_length_le ys
  obtain ⟨us, hu⟩ : ∃ us, us = trim xs := ⟨_, rfl⟩
  obtain ⟨zs, hz⟩ : ∃ zs, zs = trim ys := ⟨_, rfl⟩
  have hau : Rd w ao ca us := by rw [hu]; exact ha.trim
  have hbz : Rd w bo cb zs := by rw [hz]; exact hb.trim
  have hvu : Hid (val us = val xs) := by show _ = _; rw [hu, val_trim]
  have hvz : Hid (val zs = val ys) := by show _ = _; rw [hz, val_trim]
  rw [← hu] at hlx
  rw [← hz] at hly
  have U := Lib.hid hu
  have Z := Lib.hid hz
  clear hu hz
  obtain ⟨i0, hi, hz0, hz1, hz2⟩ := info_parts infoU32
  go_enter Tryz.func19, Tryz.ntmps19
  go_wp2_with fail
  refine (significant_any _ _ _ _ ha).mono ?_; rintro e w' ⟨rfl, rfl⟩
  rw [← U.out]
  go_wp2_with fail
  refine (significant_any _ _ _ _ hb).mono ?_; rintro e w' ⟨rfl, rfl⟩
  rw [← Z.out]
  go_wp2_with (at_make; refine wpList_make_full _ rfl _ _ 23 rfl w.heap.size 35 i0 (.int .u32 0) 1 Tryz.underlying23 hi hz0 hz1 _ _ _ _ (us.length + zs.length) rfl rfl (by omega) (by omega) (by rw [hz2]; omega) (by unfold maxLen; omega) (Nat.le_refl _) ?_; intro w1 hown hgr)
  have hown0 := Own.made hown
  clear hown hi hz0 hz1 hz2
  have hbel : Below w.heap.size w w1 := (Below.refl _ _).grown hgr (Nat.le_refl _) (fun k hk => by cases hk)
  go_loopw [21] (fun s21 wr => ∃ (i : Nat) (cs : List Nat), i ≤ us.length ∧ s21 = .int .i64 i ∧ Hid (cs.length = us.length + zs.length) ∧ Lims cs ∧ Own wr w.heap.size cs ∧ Below w.heap.size w wr ∧ Hid (∀ j, i + zs.length ≤ j → lm cs j = 0) ∧
      Hid (vl cs (i + zs.length) = vl us i * val ys)) (fun s21 _ => us.length - (intOf s21).toNat)
  case atStart => exact ⟨0, _, by omega, rfl, List.length_replicate .., lims_replicate _, hown0, hbel, fun j _ => lm_replicate _ _, by show _ = _; rw [vl_replicate, vl, Nat.zero_mul]⟩
  case round =>
    obtain ⟨i, cs, hi, rfl, hlen, hlc, hown, hbl, hzero, hv⟩ := hrel
    have har := hau.below hbl
    have hbr := hbz.below hbl
    by_cases hlt : i < us.length
    · obtain ⟨b2, o2, rfl, hcn⟩ := har.at (by omega)
      have hcn1 := hcn i hlt
      have hxb := hau.lims i
      clear hcn
      go_wp2_with fail
      have hctr : Calls Tryz.prog 40 #[.slice (some ⟨w.heap.size, i, none⟩) (us.length + zs.length - i) (us.length + zs.length - i), .slice bo zs.length cb, .int .u32 ((lm us i : Nat) : Int)] wr.drew fun e w' => ∃ (cs' : List Nat), e = .returned (.tuple #[]) ∧ cs'.length = cs.length ∧ Lims cs' ∧
          (∀ j, j < i ∨ i + zs.length < j → lm cs' j = lm cs j) ∧ vs cs' i (zs.length + 1) = vs cs i (zs.length + 1) + lm us i * val zs ∧ Own w' w.heap.size cs' ∧ wr.drew.grownBy w' (some w.heap.size) ∧ w'.heap.size = wr.drew.heap.size :=
        addMultiple_own w.heap.size i _ _ (lm us i) cs bo cb zs wr.drew hown.drew hlc (by rw [hlen.out]; omega) (by omega) hbr.drew (fun h0 b' o' e => by
          subst e
          have := Rd.lt hbz (by omega)
          omega) (by omega) hxb (hzero.out _ (Nat.le_refl _))
      have C := Lib.hid hctr
      clear hctr
      go_region_with (go_at_call 40; refine C.out.mono ?_; rintro e w2 ⟨ds, rfl, k1, k2, k3, k4, k5, k6, k7⟩)
      all_goals
        go_wp2_with fail
        have hbl2 : Below w.heap.size w w2 := hbl.drew.grown k6 (by simpa using hbl.size) (fun k hk => by cases hk; exact Nat.le_refl _)
        have hk4 := k4
        rw [hvz.out] at hk4
        go_roundw
        case rel => exact ⟨i + 1, ds, by omega, by go_num, k1.trans hlen.out, k2, k5, hbl2, fun j hj => by rw [k3 j (by omega)]; exact hzero.out j (by omega), by
          show _ = _
          exact mul_round hv.out (hzero.out _ (Nat.le_refl _)) hk4 (vl_congr _ _ _ (fun j hj => k3 j (by omega)))⟩
        case measure => simp [intOf]; omega
    · obtain rfl : i = us.length := by omega
      have hval : val cs = val xs * val ys := by
        have h1 := hv.out
        rw [← hlen.out, vl_all, vl_all, hvu.out] at h1
        exact h1
      have ht := trim_dig hlc
      rw [hval] at ht
      have T := Lib.hid ht
      have hfr := Fr.of_own hown hlc (Nat.le_refl _) (us.length + zs.length) (by rw [hlen.out]; exact Nat.le_refl _) (by omega)
      have hln := Lib.hid hlen.out.symm
      clear har hbr hgr hown0 hbel hlen hv ht hval
      go_wp2_with fail
      refine (significant_len _ _ _ _ hfr.rd _ hln.out).mono ?_; rintro e w' ⟨rfl, rfl⟩
      go_wp2_with fail
      go_ret
      have hfr2 := hfr.trim
      rw [T.out] at hfr2
      exact ⟨_, _, ret_len (congrArg List.length T.out), hfr2, hbl⟩
end Go.Proofs.YtdcnkebcpaelpaaGreatDoor
