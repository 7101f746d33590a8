/- Contracts of package natural: the product. -/
import Derived.Test.YtlgcflapgdkghabDoorNat4
import Derived.StillTailTactics
namespace Go.Proofs.YtlgcflapgdkghabDoor
open Go.RowKit

theorem Own.drewN {w : World} {b : Nat} {cs : List Nat} (h : Own w b cs) (n : Nat) : Own (w.drewN n) b cs := h.block rfl
theorem grownBy_drewN {w w' : World} {row : Option Nat} (h : w.grownBy w' row) (n : Nat) : w.grownBy (w'.drewN n) row := grownBy_trans h ⟨rfl, rfl, rfl, Nat.le_refl _, fun _ _ _ => rfl⟩
theorem size_drewN (w : World) (n : Nat) : (w.drewN n).heap.size = w.heap.size := rfl
theorem Rd.drewN {w : World} {ao : Option Addr} {cap : Nat} {xs : List Nat} (h : Rd w ao cap xs) (n : Nat) : Rd (w.drewN n) ao cap xs := h.cells fun _ _ _ _ _ => rfl

set_option maxHeartbeats 1000000 in
set_option maxRecDepth 100000 in
theorem addMultiple_own (b o m cap f : Nat) (cs : List Nat) (bo : Option Addr) (cb : Nat) (ns : List Nat) (w : World) (hown : Own w b cs) (hl : Lims cs) (hm : o + m ≤ cs.length) (hmb : m ≤ 1099511627776) (hn : Rd w bo cb ns) (hne : 0 < ns.length → ∀ b' o', bo = some ⟨b', o', none⟩ → b' ≠ b) (hnm : ns.length < m) (hf : f < 4294967296) (hz : lm cs (o + ns.length) = 0) :
    Calls Tryd.prog 31 #[.slice (some ⟨b, o, none⟩) m cap, .slice bo ns.length cb, .int .u32 (f : Int)] w fun e w' => ∃ (cs' : List Nat), e = .returned (.tuple #[]) ∧ cs'.length = cs.length ∧ Lims cs' ∧
      (∀ j, j < o ∨ o + ns.length < j → lm cs' j = lm cs j) ∧ vs cs' o (ns.length + 1) = vs cs o (ns.length + 1) + f * val ns ∧ Own w' b cs' ∧ w.grownBy w' (some b) ∧ w'.heap.size = w.heap.size := by
  have hmc := hn.max
  have hlc := hn.le
  go_enter Tryd.func31, Tryd.ntmps31
  go_wp2
  go_loopw [6, 10] (fun s6 s10 wr => ∃ (i c : Nat) (ds : List Nat), i ≤ ns.length ∧ s6 = .int .u64 c ∧ s10 = .int .i64 i ∧ c < 4294967296 ∧ Hid (ds.length = cs.length) ∧ Lims ds ∧ Own wr b ds ∧ w.grownBy wr (some b) ∧ Hid (wr.heap.size = w.heap.size) ∧
      Hid (∀ j, j < o ∨ o + i ≤ j → lm ds j = lm cs j) ∧ Hid (vs ds o i + c * pw i = f * vl ns i + vs cs o i)) (fun _ s10 _ => ns.length - (intOf s10).toNat)
  case atStart => exact ⟨0, 0, cs, by omega, rfl, rfl, by omega, rfl, hl, hown, World.grownBy.refl _ _, rfl, fun j _ => rfl, by show _ = _; simp [vs, vl]⟩
  case round =>
    obtain ⟨i, c, ds, hi, rfl, rfl, hc, hlen, hld, hownr, hg, hsz, hlow, hv⟩ := hrel
    by_cases hlt : i < ns.length
    · have hnr : Rd wr bo cb ns := hn.grown0 hg (fun h0 b' o' e h => hne h0 b' o' e (Option.some.inj h))
      obtain ⟨b2, o2, rfl, hcn⟩ := hnr.at (by omega)
      have hcn1 := hcn i hlt
      have hx := hn.lims i
      have ht := hld (o + i)
      have hcell := hownr.cell (j := o + i) (by rw [hlen.out]; omega)
      have hfro := hownr.frozen (o + i)
      obtain ⟨t, htd⟩ : ∃ t, t = lm ds (o + i) := ⟨_, rfl⟩
      rw [← htd] at hcell ht
      obtain ⟨n, hnd⟩ : ∃ n, n = lm ns i := ⟨_, rfl⟩
      rw [← hnd] at hx hcn1
      have hpb := mul_le_limb hx hf
      obtain ⟨p, hp⟩ : ∃ p, p = n * f := ⟨_, rfl⟩
      rw [← hp] at hpb
      have hw1 : IntKind.u64.wrap ((n : Int) * (f : Int)) = (p : Int) := by rw [← Int.natCast_mul, ← hp, IntKind.wrap_u64]; omega
      have hw2 : IntKind.u64.wrap ((p : Int) + (t : Int)) = ((p + t : Nat) : Int) := by rw [IntKind.wrap_u64]; omega
      obtain ⟨s, hs⟩ : ∃ s, s = c + (p + t) := ⟨_, rfl⟩
      have hw3 : IntKind.u64.wrap ((c : Int) + ((p + t : Nat) : Int)) = (s : Int) := by rw [IntKind.wrap_u64]; omega
      obtain ⟨q, hq⟩ : ∃ q, q = p + t := ⟨_, rfl⟩
      rw [← hq] at hw2 hw3
      have hsb : (s : Int) ≤ 18446744073709551615 := by omega
      have H1 := Lib.hid htd
      have H2 := Lib.hid hnd
      have H3 := Lib.hid hp
      have H4 := Lib.hid hs
      have hsd : s / 4294967296 < 4294967296 := by omega
      clear htd hnd hp hs hq hcn
      go_wp2_with fail
      go_quiet (fail)
      go_wp2_with fail
      have e1 : ((s : Int) % 4294967296) = ((s % 4294967296 : Nat) : Int) := by omega
      have hown2 := (hownr.drewN nq).setCell (j := o + i) (by rw [hlen.out]; omega) (s % 4294967296)
      rw [← e1] at hown2
      have hk1 : o + i < ds.length := by rw [hlen.out]; omega
      have hstep : c + (n * f + t) = s % 4294967296 + 4294967296 * (s / 4294967296) := by rw [← H3.out, ← H4.out]; omega
      go_roundw
      case rel => exact ⟨i + 1, s / 4294967296, _, by omega, by go_num, by go_num, hsd, (List.length_set ..).trans hlen.out, lims_set hld _ _ (Nat.mod_lt _ (by omega)), hown2, grownBy_set (grownBy_drewN hg _) _ _, (World.size_setCell _ _ _).trans hsz.out,
        fun j hj => by rw [lm_set _ _ _ _ hk1, if_neg (by omega)]; exact hlow.out j (by omega), by
        show _ = _
        rw [vs, vs_set_ge _ _ _ _ _ (Nat.le_refl _), lm_set _ _ _ _ hk1, if_pos rfl, vl, vs, pw_succ, ← H2.out, ← hlow.out (o + i) (by omega), ← H1.out]
        exact mul_step _ _ _ _ _ _ _ _ _ _ hv.out hstep⟩
      case measure => simp [intOf]; omega
    · obtain rfl : i = ns.length := by omega
      have hcell := hownr.cell (j := o + ns.length) (by rw [hlen.out]; omega)
      have hfro := hownr.frozen (o + ns.length)
      have hk1 : o + ns.length < ds.length := by rw [hlen.out]; omega
      have hown2 := hownr.setCell (j := o + ns.length) hk1 c
      go_wp2
      go_end0
      exact ⟨_, rfl, (List.length_set ..).trans hlen.out, lims_set hld _ _ hc, fun j hj => by rw [lm_set _ _ _ _ hk1, if_neg (by omega)]; exact hlow.out j (by omega), by
        have h1 := hv.out
        rw [vl_all] at h1
        rw [vs, vs_set_ge _ _ _ _ _ (Nat.le_refl _), lm_set _ _ _ _ hk1, if_pos rfl, vs, hz]
        omega, hown2, grownBy_set hg _ _, (World.size_setCell _ _ _).trans hsz.out⟩
end Go.Proofs.YtlgcflapgdkghabDoor
