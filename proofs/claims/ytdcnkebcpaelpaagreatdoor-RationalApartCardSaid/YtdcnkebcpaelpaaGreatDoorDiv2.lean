import Derived.Test.YtdcnkebcpaelpaaGreatDoorShl
import Derived.Deep.LoopGhost
/- Contracts of package natural: a digit of the quotient; the divisor added back. -/
namespace Go.Proofs.YtdcnkebcpaelpaaGreatDoor
open Go.RowKit

set_option maxHeartbeats 1000000 in
set_option maxRecDepth 100000 in
theorem addBack_own (b o m cap : Nat) (cs : List Nat) (bo : Option Addr) (cb : Nat) (ns : List Nat) (w : World) (hown : Own w b cs) (hl : Lims cs) (hm : o + m ≤ cs.length) (hmb : m ≤ 1099511627776) (hn : Rd w bo cb ns) (hne : 0 < ns.length → ∀ b' o', bo = some ⟨b', o', none⟩ → b' ≠ b) (hnm : ns.length ≤ m) :
    Calls Tryz.prog 83 #[.slice (some ⟨b, o, none⟩) m cap, .slice bo ns.length cb] w fun e w' => ∃ (cs' : List Nat) (c : Nat), e = .returned (.tuple #[]) ∧ cs'.length = cs.length ∧ Lims cs' ∧
      (∀ j, j < o ∨ o + m ≤ j → lm cs' j = lm cs j) ∧ vs cs' o m + c * pw m = vs cs o m + val ns ∧ Own w' b cs' ∧ w.grownBy w' (some b) ∧ w'.heap.size = w.heap.size := by
  have hmc := hn.max
  have hlc := hn.le
  go_enter Tryz.func83, Tryz.ntmps83
  go_wp2
  go_loopw [4, 8] (fun s4 s8 wr => ∃ (i c : Nat) (ds : List Nat), i ≤ m ∧ s4 = .int .u64 c ∧ s8 = .int .i64 i ∧ c ≤ 1 ∧ Hid (ds.length = cs.length) ∧ Lims ds ∧ Own wr b ds ∧ w.grownBy wr (some b) ∧ Hid (wr.heap.size = w.heap.size) ∧
      Hid (∀ j, j < o ∨ o + i ≤ j → lm ds j = lm cs j) ∧ Hid (vs ds o i + c * pw i = vs cs o i + vl ns i)) (fun _ s8 _ => m - (intOf s8).toNat)
  case atStart => exact ⟨0, 0, cs, by omega, rfl, rfl, by omega, rfl, hl, hown, World.grownBy.refl _ _, rfl, fun j _ => rfl, by show _ = _; simp [vs, vl]⟩
  case round =>
    obtain ⟨i, c, ds, hi, rfl, rfl, hc, hlen, hld, hownr, hg, hsz, hlow, hv⟩ := hrel
    by_cases hlt : i < m
    · have hnr : Rd wr bo cb ns := hn.grown0 hg (fun h0 b' o' e h => hne h0 b' o' e (Option.some.inj h))
      have hx := hn.lims i
      have ht := hld (o + i)
      have hcell := hownr.cell (j := o + i) (by rw [hlen.out]; omega)
      have hfro := hownr.frozen (o + i)
      obtain ⟨t, htd⟩ : ∃ t, t = lm ds (o + i) := ⟨_, rfl⟩
      rw [← htd] at hcell ht
      have H1 := Lib.hid htd
      clear htd
      go_wp2_with fail
      go_quiet ((go_at_call 65; exact Calls.quiet_of_same ((limb_any _ _ i _ _ (by first | exact hnr.drewN _ | exact hnr) _ (by omega)).mono fun e w' h => ⟨h.1, h.2.symm⟩)))
      go_wp2_with fail
      obtain ⟨s, hs⟩ : ∃ s, s = c + (t + lm ns i) := ⟨_, rfl⟩
      have e1 : ((c : Int) + ((t : Int) + (lm ns i : Nat))) % 4294967296 = ((s % 4294967296 : Nat) : Int) := by omega
      have hown2 := (hownr.drewN nq).setCell (j := o + i) (by rw [hlen.out]; omega) (s % 4294967296)
      rw [← e1] at hown2
      have hk1 : o + i < ds.length := by rw [hlen.out]; omega
      go_roundw
      case rel => exact ⟨i + 1, s / 4294967296, _, by omega, by go_num, by go_num, by omega, (List.length_set ..).trans hlen.out, lims_set hld _ _ (Nat.mod_lt _ (by omega)), hown2, grownBy_set (grownBy_drewN hg _) _ _, (World.size_setCell _ _ _).trans hsz.out,
        fun j hj => by rw [lm_set _ _ _ _ hk1, if_neg (by omega)]; exact hlow.out j (by omega), by
        show _ = _
        rw [vs, vs_set_ge _ _ _ _ _ (Nat.le_refl _), lm_set _ _ _ _ hk1, if_pos rfl, vl, vs, pw_succ, ← hlow.out (o + i) (by omega), ← H1.out]
        exact sum_step _ _ _ _ _ _ _ _ _ hv.out (by omega)⟩
      case measure => simp [intOf]; omega
    · obtain rfl : i = m := by omega
      have hvn := vl_ge ns i hnm
      have hv2 := hv.out
      rw [hvn] at hv2
      have V := Lib.hid hv2
      clear hvn hv2
      go_wp2
      go_end0
      exact ⟨ds, c, rfl, hlen.out, hld, hlow.out, V.out, hownr, hg, hsz.out⟩

theorem qd_fin {u v L M P d high next top third rest : Nat} (hu : u = L + (top * 4294967296 + third) * P) (hv : v = M + (high * 4294967296 + next) * P) (hM : M < P) (hh : 0 < high) (hn : next < 4294967296)
    (hr : d * high + rest = top) (ht : top < (high + 1) * 4294967296) (hrest : 4294967296 ≤ rest) : d < 4294967296 ∧ d * v ≤ u + v := by
  have h1 := digit_lt hr ht hrest
  refine ⟨h1, guess_end hu hv hM hh hr ?_ h1⟩
  have h2 : d * next ≤ 4294967296 * 4294967296 := Nat.mul_le_mul (by omega) (by omega)
  have h3 : 4294967296 * 4294967296 ≤ rest * 4294967296 := Nat.mul_le_mul_right _ hrest
  omega
theorem qd_low {u v q d : Nat} (h : u < (q + 1) * v) (hqd : q ≤ d) : u < (d + 1) * v := Nat.lt_of_lt_of_le h (Nat.mul_le_mul_right _ (by omega))
theorem qd_prod {d next pr : Nat} (hd : d < 4294967296) (hn : next < 4294967296) (h : pr = (IntKind.u64.wrap ((d : Int) * (next : Int))).toNat) : pr = d * next := by
  have := mul_le_limb hd hn
  rw [h, ← Int.natCast_mul, IntKind.wrap_u64]; omega
theorem ret_u32n {a : Int} {d : Nat} (h : a = (d : Int)) : Ending.returned (.int .u32 a) = .returned (.int .u32 (d : Int)) := by rw [h]

set_option maxHeartbeats 1000000 in
set_option maxRecDepth 100000 in
theorem quotientDigit_any (b o cap k : Nat) (cs : List Nat) (bo : Option Addr) (cb : Nat) (ds : List Nat) (w : World) (hown : Own w b cs) (hl : Lims cs) (hm : o + (k + 3) ≤ cs.length) (hcb : cs.length ≤ 1099511627776) (hd : Rd w bo cb ds) (hdl : ds.length = k + 2)
    (hh : 0 < lm ds (k + 1)) (huv : vs cs o (k + 3) < val ds * 4294967296) :
    Calls Tryz.prog 82 #[.slice (some ⟨b, o, none⟩) (k + 3) cap, .slice bo (k + 2) cb] w fun e w' => ∃ d : Nat, e = .returned (.int .u32 (d : Int)) ∧ d < 4294967296 ∧ d * val ds ≤ vs cs o (k + 3) + val ds ∧ vs cs o (k + 3) < (d + 1) * val ds ∧ Below w.heap.size w w' := by
  have hmc := hd.max
  have hlc := hd.le
  obtain ⟨b2, o2, rfl, hcd⟩ := hd.at (by omega)
  have d1 := hcd (k + 1) (by omega)
  have d0 := hcd k (by omega)
  have c2 := hown.cell (j := o + (k + 2)) (by omega)
  have c1 := hown.cell (j := o + (k + 1)) (by omega)
  have c0 := hown.cell (j := o + k) (by omega)
  have l1 := hd.lims (k + 1)
  have l0 := hd.lims k
  have t2 := hl (o + (k + 2))
  have t1 := hl (o + (k + 1))
  have t0 := hl (o + k)
  have eu := vs_top3 cs o k
  have ev := vl_top2 ds k
  rw [← hdl, vl_all] at ev
  have hL := vs_lt hl o k
  have hM := vl_lt hd.lims k
  obtain ⟨high, hhi⟩ : ∃ x, x = lm ds (k + 1) := ⟨_, rfl⟩
  obtain ⟨next, hne⟩ : ∃ x, x = lm ds k := ⟨_, rfl⟩
  obtain ⟨third, hth⟩ : ∃ x, x = lm cs (o + k) := ⟨_, rfl⟩
  obtain ⟨x2, hx2⟩ : ∃ x, x = lm cs (o + (k + 2)) := ⟨_, rfl⟩
  obtain ⟨x1, hx1⟩ : ∃ x, x = lm cs (o + (k + 1)) := ⟨_, rfl⟩
  rw [← hhi] at d1 l1 hh ev
  rw [← hne] at d0 l0 ev
  rw [← hth] at c0 t0 eu
  rw [← hx2] at c2 t2 eu
  rw [← hx1] at c1 t1 eu
  obtain ⟨top, htop⟩ : ∃ x, x = x1 + x2 * 4294967296 := ⟨_, rfl⟩
  have hor := or_join x2 x1 t2 t1
  rw [← htop] at hor
  have htb : (top : Int) ≤ 18446744073709551615 := by omega
  rw [show x2 * 4294967296 + x1 = top by omega] at eu
  have hhz : ((high : Int) == 0) = false := beq_eq_false_iff_ne.2 (by omega)
  obtain ⟨D0, hD0⟩ : ∃ x, x = top / high := ⟨_, rfl⟩
  obtain ⟨R0, hR0⟩ : ∃ x, x = top % high := ⟨_, rfl⟩
  have hD1 : D0 ≤ top := by rw [hD0]; exact Nat.div_le_self _ _
  have hwD : IntKind.u64.wrap ((top : Int) / (high : Int)) = (D0 : Int) := by rw [hD0, ← Int.natCast_ediv, IntKind.wrap_u64]; have := Nat.div_le_self top high; omega
  have hwR : (top : Int) % (high : Int) = (R0 : Int) := by rw [hR0]; exact (Int.natCast_emod top high).symm
  have hR1 : R0 < high := by rw [hR0]; exact Nat.mod_lt _ hh
  have hDR : D0 * high + R0 = top := by rw [hD0, hR0, Nat.mul_comm]; exact Nat.div_add_mod top high
  have hv0 : 0 < val ds := by rw [ev]; have : 1 * pw k ≤ (high * 4294967296 + next) * pw k := Nat.mul_le_mul_right _ (by omega); have := pw_pos k; omega
  have hq0 : vs cs o (k + 3) / val ds * val ds ≤ vs cs o (k + 3) := Nat.div_mul_le_self _ _
  have hq1 : vs cs o (k + 3) < (vs cs o (k + 3) / val ds + 1) * val ds := by have := Nat.lt_succ_self (vs cs o (k + 3) / val ds); rwa [Nat.div_lt_iff_lt_mul hv0] at this
  have htop2 := top_lt eu ev hM l0 huv
  have hqB := quo_lt_base hq0 huv
  have hqD : vs cs o (k + 3) / val ds ≤ D0 := by
    rw [hD0]
    refine guess_ge (P := pw (k + 1)) hh hq0 ?_ ?_
    · rw [eu, pw_succ, Nat.add_mul]
      have : (top * 4294967296 + third + 1) * pw k ≤ (top * 4294967296 + 4294967296) * pw k := Nat.mul_le_mul_right _ (by omega)
      rw [Nat.add_mul _ 1] at this
      grind
    · rw [ev, pw_succ, Nat.add_mul]; grind
  obtain ⟨q, hq⟩ : ∃ x, x = vs cs o (k + 3) / val ds := ⟨_, rfl⟩
  rw [← hq] at hq0 hq1 hqB hqD
  have DR := Lib.hid hDR
  have Q0 := Lib.hid hq0
  have Q1 := Lib.hid hq1
  have V0 := Lib.hid hv0
  clear hq hD0 hR0 hDR hq0 hq1 hv0
  have EU := Lib.hid eu
  have EV := Lib.hid ev
  have HL := Lib.hid hL
  have HM := Lib.hid hM
  have UV := Lib.hid huv
  clear hhi hne hth hx2 hx1 htop hcd eu ev hL hM huv
  go_enter Tryz.func82, Tryz.ntmps82
  go_wp2_with fail
  go_step3
  go_wp2_with fail
  go_quiet (fail)
  go_wp2_with fail
  go_quiet (fail)
  go_wp2_with fail
  go_quiet (fail)
  go_wp2_with fail
  go_step3
  go_wp2_with fail
  go_loopw [10, 11] (fun s10 s11 wr => ∃ (d r : Nat), s10 = .int .u64 d ∧ s11 = .int .u64 r ∧ d ≤ D0 ∧ r < 4294967296 ∧ q ≤ d ∧ Hid (d * high + r = top) ∧ Below w.heap.size w wr) (fun _ s11 _ => 4294967296 - (intOf s11).toNat)
  case atStart => exact ⟨D0, R0, rfl, by rw [hwR], Nat.le_refl _, by omega, hqD, DR.out, below_drewN (below_drewN (Below.refl _ _) _) _⟩
  case round =>
    obtain ⟨d, r, rfl, rfl, hdD, hr, hqd, hdr, hbl⟩ := hrel
    have HT := Lib.hid htop2
    obtain ⟨pr, hpr⟩ : ∃ x : Nat, x = (IntKind.u64.wrap ((d : Int) * (next : Int))).toNat := ⟨_, rfl⟩
    have hwp : IntKind.u64.wrap ((d : Int) * (next : Int)) = (pr : Int) := by rw [hpr, IntKind.wrap_u64]; omega
    have hprb : (pr : Int) ≤ 18446744073709551615 := by rw [hpr, IntKind.wrap_u64]; omega
    have hor2 := or_join r third hr t0
    obtain ⟨rt, hrt⟩ : ∃ x : Nat, x = third + r * 4294967296 := ⟨_, rfl⟩
    rw [← hrt] at hor2
    have hrtb : (rt : Int) ≤ 18446744073709551615 := by omega
    have HRT := Lib.hid hrt
    have HPR := Lib.hid hpr
    have HHH := Lib.hid hh
    have QB := Lib.hid hqB
    have L0 := Lib.hid l0
    have hdb : (d : Int) ≤ 18446744073709551615 := by omega
    clear htop2 hor hwD hwR d1 d0 c2 c1 c0 hown hl hm hd hcb hdl DR hrt hpr hqB hqD hhz hR1 hD1 l0 t2 t1 t0
    by_cases hbig : (4294967296 : Int) ≤ (d : Int)
    · have hd1 : 1 ≤ d := by omega
      have hst := Lib.hid (step_rest hdr.out (show 0 < d by omega))
      have hq2 : q ≤ d - 1 := by have := QB.out; omega
      by_cases hsum : (4294967296 : Int) ≤ (r : Int) + (high : Int)
      · have hf := Lib.hid (qd_fin EU.out EV.out HM.out HHH.out L0.out hst.out HT.out (by omega))
        go_wp2_with fail
        rw [Exit.noGoto_ret]
        go_ret
        exact ⟨d - 1, ret_u32n (by have := hf.out.1; omega), hf.out.1, hf.out.2, qd_low Q1.out hq2, hbl⟩
      · go_wp2_with fail
        go_roundw
        case rel => exact ⟨d - 1, r + high, by go_num, by go_num, by omega, by omega, hq2, hst.out, hbl⟩
        case measure => have := HHH.out; simp [intOf]; omega
    · have hpd := Lib.hid (qd_prod (by omega) L0.out HPR.out)
      by_cases hgt : (rt : Int) < (pr : Int)
      · have hd1 : 1 ≤ d := by
          rcases Nat.eq_zero_or_pos d with e | e
          · have h1 := hpd.out; rw [e, Nat.zero_mul] at h1; omega
          · exact e
        have hst := Lib.hid (step_rest hdr.out (show 0 < d by omega))
        have hq2 : q ≤ d - 1 := by
          have h1 := hpd.out
          have h2 := HRT.out
          have := guess_step EU.out HL.out EV.out hdr.out (by omega) Q0.out
          omega
        by_cases hsum : (4294967296 : Int) ≤ (r : Int) + (high : Int)
        · have hf := Lib.hid (qd_fin EU.out EV.out HM.out HHH.out L0.out hst.out HT.out (by omega))
          go_wp2_with fail
          go_ret
          exact ⟨d - 1, ret_u32n (by have := hf.out.1; omega), hf.out.1, hf.out.2, qd_low Q1.out hq2, hbl⟩
        · go_wp2_with fail
          go_roundw
          case rel => exact ⟨d - 1, r + high, by go_num, by go_num, by omega, by omega, hq2, hst.out, hbl⟩
          case measure => have := HHH.out; simp [intOf]; omega
      · have hf := Lib.hid (guess_end EU.out EV.out HM.out HHH.out hdr.out (by have h1 := hpd.out; have h2 := HRT.out; omega) (show d < 4294967296 by omega))
        go_wp2_with fail
        go_ret
        exact ⟨d, ret_u32n (by omega), by omega, hf.out, qd_low Q1.out hqd, hbl⟩
end Go.Proofs.YtdcnkebcpaelpaaGreatDoor
