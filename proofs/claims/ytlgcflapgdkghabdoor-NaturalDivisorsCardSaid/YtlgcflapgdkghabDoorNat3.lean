/- Contracts of package natural: the quotient by one limb. -/
import Derived.Test.YtlgcflapgdkghabDoorNat2
namespace Go.Proofs.YtlgcflapgdkghabDoor
open Go.RowKit

theorem ret_u32 {a b : Int} (h : a = b) : Ending.returned (.int .u32 a) = .returned (.int .u32 b) := by rw [h]

set_option maxHeartbeats 800000 in
set_option maxRecDepth 100000 in
theorem divideInPlace_own (b cap d : Nat) (xs : List Nat) (w : World) (hown : Own w b xs) (hl : Lims xs) (hd : 0 < d) (hd2 : d < 4294967296) (hb : xs.length ≤ 1099511627776) :
    Calls Tryd.prog 32 #[.slice (some ⟨b, 0, none⟩) xs.length cap, .int .u32 (d : Int)] w fun e w' => ∃ ys : List Nat, e = .returned (.int .u32 ((val xs % d : Nat) : Int)) ∧ ys.length = xs.length ∧ Lims ys ∧ val ys = val xs / d ∧
      Own w' b ys ∧ w.grownBy w' (some b) ∧ w'.heap.size = w.heap.size := by
  obtain ⟨n, hn⟩ : ∃ n, n = xs.length := ⟨_, rfl⟩
  rw [← hn] at hb ⊢
  have hnh := Lib.hid hn; clear hn
  go_enter Tryd.func32, Tryd.ntmps32
  go_wp2
  go_loopw [5, 11] (fun s5 s11 wr => ∃ (i r : Nat) (cs : List Nat), i ≤ n ∧ s5 = .int .u64 r ∧ s11 = .int .i64 i ∧ r < d ∧ Hid (cs.length = n) ∧ Lims cs ∧ Own wr b cs ∧ w.grownBy wr (some b) ∧ Hid (wr.heap.size = w.heap.size) ∧
      Hid (∀ j, j < n - i → lm cs j = lm xs j) ∧ Hid (val (xs.drop (n - i)) = d * val (cs.drop (n - i)) + r)) (fun _ s11 _ => n - (intOf s11).toNat)
  case atStart => exact ⟨0, 0, xs, by omega, rfl, rfl, by omega, hnh.out.symm, hl, hown, World.grownBy.refl _ _, rfl, fun j _ => rfl, by
    show _ = _
    rw [val_drop_ge xs _ (by rw [← hnh.out]; omega)]; omega⟩
  case round =>
    obtain ⟨i, r, cs, hi, rfl, rfl, hr, hlen, hlc, hownr, hg, hsz, hlow, hv⟩ := hrel
    by_cases hlt : i < n
    · have hx := hlc (n - 1 - i)
      have hcell := hownr.cell (j := n - 1 - i) (by rw [hlen.out]; omega)
      have hfro := hownr.frozen (n - 1 - i)
      obtain ⟨s, hs⟩ : ∃ s : Nat, s = lm cs (n - 1 - i) + r * 4294967296 := ⟨_, rfl⟩
      have hor : bits BinOp.or IntKind.u64 ((r : Int) * 4294967296) ((lm cs (n - 1 - i) : Nat) : Int) = (s : Int) := by rw [hs]; exact or_join r _ (by omega) hx
      have hsb : (s : Int) ≤ 18446744073709551615 := by omega
      have hq := quo_lt s d r _ hr hx hs
      have hq1 : (s : Int) / (d : Int) ≤ 4294967295 := by
        have e : (s : Int) / (d : Int) = ((s / d : Nat) : Int) := (Int.natCast_ediv s d).symm
        rw [e]; omega
      have hq0 : 0 ≤ (s : Int) / (d : Int) := Int.ediv_nonneg (by omega) (by omega)
      have hsh := Lib.hid hs
      clear hs hq
      go_wp2
      have e1 : (s : Int) / (d : Int) = ((s / d : Nat) : Int) := (Int.natCast_ediv s d).symm
      have e2 : (s : Int) % (d : Int) = ((s % d : Nat) : Int) := (Int.natCast_emod s d).symm
      rw [e1] at hq1
      have hown2 := hownr.setCell (j := n - 1 - i) (by rw [hlen.out]; omega) (s / d)
      rw [← e1] at hown2
      have hk1 : n - 1 - i < cs.length := by rw [hlen.out]; omega
      have hk2 : n - (i + 1) = n - 1 - i := by omega
      have hk3 : n - i = n - 1 - i + 1 := by omega
      go_roundw
      case rel => exact ⟨i + 1, s % d, _, by omega, by rw [e2], by go_num, Nat.mod_lt _ hd, (List.length_set ..).trans hlen.out, lims_set hlc _ _ (by omega), hown2, grownBy_set hg _ _, (World.size_setCell _ _ _).trans hsz.out,
        fun j hj => by rw [lm_set _ _ _ _ hk1, if_neg (by omega)]; exact hlow.out j (by omega), by
        show _ = _
        rw [hk2, val_drop xs _ (by rw [← hnh.out]; omega), val_drop (cs.set (n - 1 - i) (s / d)) _ (by rw [List.length_set]; exact hk1), lm_set _ _ _ _ hk1, if_pos rfl, drop_set_lt _ _ _ _ (by omega)]
        have hv2 := hv.out
        rw [hk3] at hv2
        rw [← hlow.out (n - 1 - i) (by omega)]
        exact short_step _ _ _ _ _ _ _ _ hv2 hsh.out (Nat.div_add_mod s d).symm⟩
      case measure => simp [intOf]; omega
    · obtain rfl : i = n := by omega
      have hv2 := hv.out
      rw [Nat.sub_self, List.drop_zero, List.drop_zero] at hv2
      have hm : Hid (val xs % d = r) := by show _ = _; rw [hv2, Nat.mul_add_mod]; exact Nat.mod_eq_of_lt hr
      have hq : Hid (val cs = val xs / d) := by show _ = _; rw [hv2, Nat.mul_add_div hd, Nat.div_eq_of_lt hr]; omega
      clear hv2
      go_wp2
      go_ret
      exact ⟨cs, ret_u32 (by rw [hm.out]), hlen.out, hlc, hq.out, hownr, hg, hsz.out⟩

/-- divideInPlace, the slice nil or the call's own -/
theorem divideInPlace_any (B : Nat) (ao : Option Addr) (cap d : Nat) (xs : List Nat) (w : World) (h : Fr B w ao cap xs) (hd : 0 < d) (hd2 : d < 4294967296) (hb : xs.length ≤ 1099511627776) (hB : B ≤ w.heap.size) :
    Calls Tryd.prog 32 #[.slice ao xs.length cap, .int .u32 (d : Int)] w fun e w' => ∃ ys : List Nat, e = .returned (.int .u32 ((val xs % d : Nat) : Int)) ∧ ys.length = xs.length ∧ val ys = val xs / d ∧
      Fr B w' ao cap ys ∧ w.grownBy w' (ao.map (·.block)) ∧ Below B w w' ∧ w'.heap.size = w.heap.size := by
  obtain ⟨h1, h2, h3, h4⟩ := h
  rcases h4 with ⟨rfl, rfl, rfl⟩ | ⟨b, rfl, hBb, hown⟩
  · clear h1 h2 h3
    have e0 : Hid (val [] % d = 0) := Nat.zero_mod d
    have e1 : Hid (val [] = val [] / d) := (Nat.zero_div d).symm
    go_enter Tryd.func32, Tryd.ntmps32
    go_wp2
    refine wp_loop_rounds 1 ?_
    rw [rounds_succ]
    go_wp2
    go_ret
    exact ⟨[], ret_u32 (by rw [e0.out]; rfl), rfl, e1.out, Fr.nil _ _, World.grownBy.refl _ _, Below.refl _ _, rfl⟩
  · refine (divideInPlace_own b cap d xs w hown h3 hd hd2 hb).mono ?_
    rintro e w' ⟨ys, rfl, k1, k2, k3, k4, k5, k6⟩
    exact ⟨ys, rfl, k1, k3, Fr.of_own k4 k2 hBb cap (by rw [k1]; exact h1) h2, k5, (Below.refl _ _).grown k5 hB (fun k hk => by cases hk; exact hBb), k6⟩
end Go.Proofs.YtlgcflapgdkghabDoor
